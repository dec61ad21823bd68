import PyProof.Rows.All
import Wide.All
import OpenK.AllK
import Wide.FinOn
import Lean
import PyProof.EqAt
import PyProof.EqKinds
import PyProof.TupleCall
import OpenK.KOwn
import PyProof.Rows.FStr
import PyProof.FString
import PyProof.NsDelKeeps
import KE.KIsAll
import PyProof.ExcArgs
import KE.KLam
import KE.KNestM
import PyProof.Rows.SetFrom
import PyProof.ListMulRoad
import PyProof.FactsAll.set_1
import PyProof.FactsAll.set_2
import PyProof.CollectIter
import PyProof.TupleIter
import PyProof.CollectWalk
import PyProof.Rows.SortShell
import PyProof.SumAny
import PyProof.ListOps
import KE.KDictList
import PyProof.NoPylong
import KE.KUnpack
import KE.KSortTup
import KE.KIntText
import PyProof.Rows.TupDisplay
import PyProof.AttrMiss
import PyProof.IsiH_list
import KE.KDictOf
import PySem.Challenge.RW_nearkinds_k73_whole_kinds_made_one
noncomputable section
open PySem.W (Frag)
open List (all_cons all_map drop_length drop_zero filter_congr filter_map filter_nil find?_cons flatMap_cons flatMap_map foldl_append forIn_cons forIn_nil getElem_inj head?_append length_replicate length_set lookup_cons map_id map_nil mem_cons mem_map nodup_cons not_mem_nil of_mem_zip pairwise_map take_length)
open Nat (add_comm le_add_right le_succ lt_or_ge lt_trans mul_le_mul not_lt_zero succ_mul zero_add zero_lt_succ)
open Int (emod_nonneg)
open Option (getD_none isSome_some)
open PySem.W (Looks cellsFrom_some codeIn findIn fnOf instObj keepIn kitOne kitx_dict kitx_list kitx_tuple lookIn methodObj mroIn nsIn plainGet)
open PySem.F (args_tuple_add_2 entry_tuple_add plain_list_iadd plain_sum_loop slot_set_iter slot_tuple_add)
abbrev aa:=@List.getElem?_eq_getElem
abbrev ab:=@List.getD_eq_getElem?_getD
abbrev ae:=@PySem.Heap.get?_push_of_some
abbrev af:=@decide_eq_true_iff
abbrev ag:=@List.length_map
abbrev ah:=@if_pos
abbrev ai:=@List.getElem?_append_left
abbrev aj:=@if_neg
abbrev ak:=@Bool.and_eq_true
abbrev ao:=@Nat.le_refl
abbrev aq:=@decide_eq_true
abbrev ar:=@List.getElem?_append_right
abbrev au:=@PySem.Heap.get?_push_size
abbrev av:=@List.getElem?_map
abbrev aw:=@List.mem_cons_of_mem
abbrev ax:=@decide_eq_false
abbrev ay:=@List.mem_cons_self
abbrev az:=@Bool.false_ne_true
abbrev aA:=@List.size_toArray
abbrev aB:=@List.length_append
abbrev aC:=@Option.some.inj
abbrev aD:=@List.getElem?_eq_none
abbrev aE:=@List.length_range
abbrev aF:=@List.map_cons
abbrev aG:=@Int.toNat_natCast
abbrev aH:=@PySem.Heap.lt_size
abbrev aI:=@List.map_map
abbrev aJ:=@Nat.lt_of_lt_of_le
abbrev aK:=@List.mem_append_right
abbrev aL:=@List.map_congr_left
abbrev aM:=@Nat.ne_of_lt
abbrev aN:=@List.length_cons
abbrev aO:=@Array.length_toList
abbrev aP:=@List.getElem?_set_ne
abbrev aQ:=@List.map_append
abbrev aR:=@PySem.Heap.get?_update_other
abbrev aS:=@List.getElem_mem
abbrev aT:=@List.getElem?_set_self
abbrev aU:=@List.append_assoc
abbrev aV:=@beq_iff_eq
abbrev aW:=@List.getElem_of_mem
abbrev aX:=@List.all_eq_true
abbrev aY:=@List.mem_append_left
abbrev aZ:=@List.flatten_cons
abbrev a5:=@Nat.lt_irrefl
abbrev a6:=@List.getElem?_range
abbrev a7:=@PySem.W.mg_of
abbrev a8:=@PySem.W.mg_none_of
abbrev a9:=@List.filter_cons_of_pos
abbrev ba:=@Bool.false_eq_true
abbrev bb:=@List.drop_eq_getElem_cons
abbrev bc:=@PySem.Heap.get?_update_self
abbrev bf:=@List.range_succ
abbrev bg:=@Int.eq_ofNat_of_zero_le
abbrev bh:=@Nat.lt_succ_of_lt
abbrev bj:=@List.length_singleton
abbrev bo:=@List.length_filter_le
abbrev bp:=@PySem.Heap.size_push
abbrev bq:=@List.replicate_succ
abbrev br:=@List.flatMap_append
abbrev bt:=@Nat.ne_of_gt
abbrev bw:=@Nat.le_trans
abbrev bx:=@List.nil_append
abbrev bz:=@Nat.lt_succ_self
abbrev bA:=@List.mem_range
abbrev bB:=@List.filter_append
abbrev bC:=@List.range_eq_range'
abbrev bD:=@List.mem_filter
abbrev bE:=@List.length_nil
abbrev bF:=@List.filter_cons_of_neg
abbrev bG:=@beq_self_eq_true
abbrev bH:=@Bool.or_eq_true
abbrev bI:=@List.append_nil
abbrev bJ:=@Nat.le_of_lt
abbrev bK:=@List.range'_succ
abbrev bL:=@List.ext_getElem
abbrev bM:=@List.countP_cons
abbrev bN:=@List.any_cons
abbrev bO:=@List.mem_of_getElem?
abbrev bQ:=@PySem.W.kia_one
abbrev bR:=@Nat.zero_le
abbrev bS:=@Array.getElem?_toList
abbrev bT:=@Nat.lt_of_le_of_lt
abbrev bU:=@Int.emod_lt_of_pos
abbrev bV:=@List.all_append
abbrev bX:=@List.nodup_range
abbrev bY:=@List.length_take
abbrev bZ:=@List.length_drop
abbrev b0:=List (List Int)
abbrev b3:=List Int
abbrev b4:=List PySem.Value
abbrev b5:=List PySem.Addr
abbrev b6:=List (PySem.Addr×PySem.Obj)
abbrev b7:=List Nat
abbrev b8:=Option PySem.Value
abbrev b9:=List PySem.Str
abbrev cb:=PySem.Value->PySem.Shared->Prop
abbrev cc:=List PySem.Expr
abbrev cf:=Option Int
abbrev cg:=PySem.Str->Option PySem.Value
abbrev ck:=List PySem.Env
abbrev cm:=List (PySem.Str×PySem.Addr)
abbrev cn:=List PySem.Keyword
abbrev cp:=Option PySem.Addr
abbrev cq:=List PySem.Stmt
abbrev cu:=@PySem.wpAny_bind
abbrev cw:=@PySem.wpAny_pure
abbrev cA:=@List.getElem?_eq_some_iff
abbrev cy:=@List.mem_cons
abbrev cB:=@List.all_eq_true
abbrev cx:=@List.mem_range
abbrev cz:=@List.mem_map
abbrev cC:=@List.mem_singleton
set_option Elab.async false
set_option linter.all false
set_option maxRecDepth 1000000
set_option maxHeartbeats 4000000
variable {D a b it:PySem.Addr}{osl:Array (Option PySem.Value)}{items:Array PySem.Value}{led:Bool}{op:PySem.CmpOp}{env:PySem.Env}{e elt tg:PySem.Expr}{fd:PySem.FuncData}{base h h':PySem.Heap}{pins:List (PySem.Addr×PySem.Obj)}{es:List (Int×PySem.Value)}{ks t:b0}{fp φ:List PySem.Addr}{gens gs:List PySem.Comprehension}{elts ifs:List PySem.Expr}{l ns:b3}{cap:b7}{body:List PySem.Stmt}{N ps:List PySem.Str}{its us vs:List PySem.Value}{M:PySem.Model}{i kk n t':Nat}{μ:Nat->Nat->Int}{apos cpos p pos tpos:PySem.Pos}{P:PySem.Program}{sc scope:PySem.Scope}{s:PySem.Shared}{x:PySem.Str}{mg:PySem.Str->Option PySem.Value}{α:Type}{u:PySem.Value}{E Q:PySem.Value->PySem.Shared->Prop}{f:PySem.Value->PySem.Value->PySem.Sem PySem.Value}{w:PySem.World}{YP:PySem.World->PySem.Heap->Prop}
namespace L2
open PySem PySem.Spec PyProof.Rows
noncomputable abbrev Key:=Sum Int Str
noncomputable def Jb:Key->Value->Bool
 |.inl k,v=>Value.isInt k v|.inr x,v=>Value.isStrOf x v
noncomputable def cE (w:World):Key->Int
 |.inl k=>hashInt k|.inr x=>hashStr w x
theorem g7:∀{k:Key}{v:Value},Jb k v=true->(∃i t,k=Sum.inl i/\v=Value.int i t)∨(∃x t,k=Sum.inr x/\v=Value.str x t)
 |.inl i,v,h=>by
  obtain⟨t,e⟩:=Value.isInt_shape (k:=i) (v:=v) h;exact .inl ⟨i,t,rfl,e⟩
 |.inr x,v,h=>by
  obtain⟨t,e⟩:=Value.isStrOf_shape (x:=x) (v:=v) h;exact .inr ⟨x,t,rfl,e⟩
def Dh (i:Int)(t:Tok):Jb (.inl i) (.int i t)=true:=by simp[Jb,Value.isInt]
def Eh (x:Str)(t:Tok):Jb (.inr x) (.str x t)=true:=by simp[Jb,Value.isStrOf]
def cF (a b:Int):decide ((Sum.inl a:Key)=Sum.inl b)=(a==b):=by
 by_cases e:a=b
 ·subst e;simp
 ·have h:¬(Sum.inl a:Key)=Sum.inl b:=λq=>e (Sum.inl.inj q)
  rw[ax h];exact(beq_eq_false_iff_ne.mpr e).symm
def cG (a b:Str):decide ((Sum.inr a:Key)=Sum.inr b)=decide (a=b):=by
 by_cases e:a=b
 ·subst e;simp
 ·have h:¬(Sum.inr a:Key)=Sum.inr b:=λq=>e (Sum.inr.inj q)
  rw[ax h,ax e]
def cH (a:Int)(b:Str):decide ((Sum.inl a:Key)=Sum.inr b)=false:=ax (λq=>nomatch q)
def A7 (a:Str)(b:Int):decide ((Sum.inr a:Key)=Sum.inl b)=false:=ax (λq=>nomatch q)
def yk (prog:Program)(w:World):PySem.KeyKind prog w Key where
 is:=Jb
 hash:=cE w
 inj:=λv a b f c=>by
  rcases g7 f with ⟨i,t,rfl,rfl⟩|⟨x,t,rfl,rfl⟩
  ·rcases g7 c with ⟨j,u,rfl,e⟩|⟨y,u,rfl,e⟩
   ·injection e with E _;rw[E]
   ·exact nomatch e
  ·rcases g7 c with ⟨j,u,rfl,e⟩|⟨y,u,rfl,e⟩
   ·exact nomatch e
   ·injection e with E _;rw[E]
 byValue:=λk v h=>by
  rcases g7 h with ⟨i,t,rfl,rfl⟩|⟨x,t,rfl,rfl⟩<;>rfl
 pyHash:=λH h=>by
  rcases g7 H with ⟨i,t,rfl,rfl⟩|⟨x,t,rfl,rfl⟩
  ·exact wpAny_pyHash_int h
  ·exact wpAny_pyHash_str h
 eqBool:=λd H h=>by
  rcases g7 d with ⟨i,t,rfl,rfl⟩|⟨x,t,rfl,rfl⟩
  ·rcases g7 H with ⟨j,u,rfl,rfl⟩|⟨y,u,rfl,rfl⟩
   ·rw[cF]at h;exact wpAny_eqBool_int h
   ·rw[cH]at h;exact SeqAt.EqAt.int_str i t y u _ _ _ _ h
  ·rcases g7 H with ⟨j,u,rfl,rfl⟩|⟨y,u,rfl,rfl⟩
   ·rw[A7]at h;exact SeqAt.EqAt.str_int x t j u _ _ _ _ h
   ·rw[cG]at h;exact wpAny_eqBool_str h
 «strs»:=λk x t v h=>by
  rcases g7 h with ⟨i,u,rfl,e⟩|⟨y,u,rfl,e⟩
  ·exact nomatch e
  ·injection e with E _
   subst E;cases v<;>rfl
def Fu (prog:Program)(w:World)(k:Key)(v:Value):(yk prog w).is k v=Jb k v:=rfl
def HL (prog:Program)(w:World)(i:Int)(t:Tok):(yk prog w).is (.inl i) (.int i t)=true:=Dh i t
def Fi (prog:Program)(w:World)(x:Str)(t:Tok):(yk prog w).is (.inr x) (.str x t)=true:=Eh x t
inductive V where
 |non|bl (b:Bool)|int (i:Int)|str (x:Str)|byt (b:Array UInt8)|flt (b:UInt64)|ref (a:Addr)|ty (n:String)
 deriving DecidableEq
noncomputable def RelV:V->Value->Prop
 |.non,u=>u=Value.none|.bl b,u=>u=Value.bool b|.int i,u=>∃t,u=Value.int i t|.str x,u=>∃t,u=Value.str x t|.byt b,u=>∃t,u=Value.bytes b t|.flt b,u=>∃t,u=Value.float b t|.ref a,u=>u=Value.ref a|.ty n,u=>u=Value.type n
abbrev Vals:List V->List Value->Prop:=Paired RelV
theorem Vals.length {xs:List V}(r:Vals xs us):xs.length=us.length:=Paired.length r
theorem Vals.get:∀{xs:List V}{us:b4}{i:Nat}{x:V},Vals xs us->xs[i]? =some x->∃u,us[i]? =some u/\RelV x u
 |_,_,_,_,.nil,e=>by simp at e|_,_,0,_,.cons r _,e=>by simp at e;subst e;exact⟨_,rfl,r⟩|_,_,i+1,x,.cons _ t,e=>by
  obtain⟨u,H,h⟩:=Vals.get (i:=i) (x:=x) t (by simpa using e)
  exact⟨u,by simpa using H,h⟩
theorem Vals.set {x:V}(r:RelV x u):∀{xs:List V}{us:b4}(i:Nat),Vals xs us->Vals (xs.set i x) (us.set i u)
 |_,_,_,.nil=>.nil|_,_,0,.cons _ t=>.cons r t|_,_,i+1,.cons q t=>.cons q (Vals.set r i t)
theorem Vals.append:∀{xs y:List V}{us ws:b4},Vals xs us->Vals y ws->Vals (xs++y) (us++ws)
 |_,_,_,_,.nil,s=>s|_,_,_,_,.cons r t,s=>.cons r (Vals.append t s)
theorem Vals.take:∀{xs:List V}{us:b4}(n:Nat),Vals xs us->Vals (xs.take n) (us.take n)
 |_,_,0,_=>.nil|_,_,_+1,.nil=>.nil|_,_,n+1,.cons r t=>.cons r (Vals.take n t)
theorem Vals.drop:∀{xs:List V}{us:b4}(n:Nat),Vals xs us->Vals (xs.drop n) (us.drop n)
 |_,_,0,r=>r|_,_,_+1,.nil=>.nil|_,_,n+1,.cons _ t=>Vals.drop n t
def Vals.none_of:∀{xs:List V}{us:b4}{i:Nat},Vals xs us->xs[i]? =none->us[i]? =none:=λ {xs us i} r e=>by
 have H:=r.length;have h:xs.length<=i:=List.getElem?_eq_none_iff.mp e;exact List.getElem?_eq_none_iff.mpr (by omega)
def gL:Option V->Option Value->Prop
 |some v,some u=>RelV v u|none,none=>True|_,_=>False
def KV {κ:Type}:List (κ×V)->List (κ×Value)->Prop:=Paired λ(p:κ×V) (q:κ×Value)=>p.1=q.1/\RelV p.2 q.2
noncomputable def kV:Key->V
 |.inl i=>.int i|.inr x=>.str x
inductive HO where
 |lst (xs:List V)
 |tup (xs:List V)
 |dK (kvs:List (Key×V))|dT (kvs:List (List Key×V))
 |set (S:Int->Bool) (n:Nat)
 |ins (C dx:Addr) (fs:List (Str×V))
 |own (x:Addr)
 |xd (fs:List (Str×V))
 |met (f x:Addr)
 |rng (lo hi:Int)
 |frz (o:Obj) (u:HO)
 |tbl (ps:Array Value)
 |ext (φ:Heap->Prop)
noncomputable abbrev Hp:=Addr->Option HO
noncomputable def upd (H:Hp)(a:Addr)(o:HO):Hp:=λb=>if b=a then some o else H b
def jO {H:Hp}{o:HO}:upd H a o a=some o:=by unfold upd;rw[ah rfl]
def qx {H:Hp}{o:HO}(h:b≠a):upd H a o b=H b:=by unfold upd;rw[aj h]
def Mr {H:Hp}{o u:HO}(h:H a=some o)(h':H b=some u)(d:o≠u):a≠b:=by
 intro e;subst e;rw[h]at h';exact d (aC h')
def wO {H:Hp}{o:HO}(h:H a=some o)(h':H b=none):a≠b:=by
 intro e;subst e;rw[h]at h';cases h'
def ZI (h:Heap)(a:Addr)(items:Array Value):Prop:=∃o,h.get? a=some o/\(o.cls=.type "tuple" /\ o.dict=none)/\∃n,o.data=.seq items n
def ZI.tup {h:Heap}{a:Addr}{items:Array Value}(x:ZI h a items):IsTup h a items:=let ⟨o,e,c,d⟩:=x;⟨o,e,c.1,d⟩
def ZI.new (h:Heap)(items:Array Value):ZI (h.push { cls:=.type "tuple",data:=.seq items }) h.objs.size items:=⟨_,au h rfl,⟨rfl,rfl⟩,0,rfl⟩
section
variable (P:Program)(w:World)
def jI (H:Hp)(h:Heap)(a:Addr):HO->Prop
 |.lst xs=>xs.length<=sizeLine/\∃(its:b4) (n:Nat),Vals xs its/\h.get? a=some { cls:=.type "list",data:=.seq its.toArray n }
 |.tup xs=>xs.length<=sizeLine/\∃its:b4,Vals xs its/\ZI h a its.toArray|.dK kvs=>kvs.length<=sizeLine/\(a==sysModules)=false/\∃vs,KV kvs vs/\h.DictOf (yk P w) a vs|.dT kvs=>kvs.length<=sizeLine/\(a==sysModules)=false/\∃xs:List (List Key×Addr×Value),
   Paired (λ(p:List Key×V) (q:List Key×Addr×Value)=>p.1=q.1/\H q.2.1=some (.tup (p.1.map kV))/\RelV p.2 q.2.2) kvs xs/\
   ∃o e E,h.get? a=some o/\o.ExactDict/\o.data=.dict e E/\e.toList=xs.map (entryOfKey (tupleKind (yk P w)))/\(xs.map (·.1)).Nodup
 |.set S n=>h.SetOf (intKind P w) a S n|.ins C d fs=>H d=some (.own a)/\fs.length<=1000/\d≠a/\h.get? a=some (instObj C d)/\
   ∃m,h.Ns1 d m/\(∀f,gL (fs.lookup f) (m f))/\PySem.Within m (fs.map (·.1))
 |.own _=>∃o,h.get? a=some o|.xd fs=>∃m,h.Ns1 a m/\∀f,gL (fs.lookup f) (m f)|.rng lo i=>∃t u v,h.get? a=some { cls:=.type "range",data:=.fields #[.int lo t,.int i u,.int 1 v] }
 |.frz o u=>h.get? a=some o/\jI H h a u|.tbl s=>h.get? a=some { cls:=.none,data:=.fields s }|.met f x=>h.get? a=some (methodObj (.ref f) (.ref x))|.ext φ=>φ h/\(∃o,h.get? a=some o)/\∀c b:Heap,φ c->(∀o,c.get? a=some o->b.get? a=some o)->φ b
def jE (H:Hp)(h:Heap):Prop:=∀a o,H a=some o->jI P w H h a o
end
section
variable {H H':Hp}{o:HO}
theorem jI.lt (x:jI P w H h a o):a<h.objs.size:=by
 cases o with
 |lst xs=>obtain⟨_,_,_,_,e⟩:=x;exact aH e|tup xs=>obtain⟨_,_,_,p⟩:=x;exact p.tup.lt|dK kvs=>obtain⟨_,_,_,_,o,_,_,e,_⟩:=x;exact aH e|dT kvs=>obtain⟨_,_,_,_,o,_,_,e,_⟩:=x;exact aH e|set S n=>obtain⟨o,_,_,_,e,_⟩:=x;exact aH e|ins C d fs=>obtain⟨_,_,_,e,_⟩:=x;exact aH e|own y=>obtain⟨_,e⟩:=x;exact aH e|xd fs=>obtain⟨_,⟨_,_,_,e,_⟩,_⟩:=x;exact aH e|rng lo i=>obtain⟨_,_,_,e⟩:=x;exact aH e|frz ob u=>obtain⟨e,_⟩:=x;exact aH e|tbl s=>exact aH (show h.get? a=some _ from x)|met f y=>exact aH (show h.get? a=some _ from x)|ext φ=>obtain⟨_,⟨_,e⟩,_⟩:=x;exact aH e
theorem Paired.mapP {β:Type}{F G:α->β->Prop}:∀{L:List α}{l:List β},Paired F L l->(∀a b,F a b->G a b)->Paired G L l
 |_,_,.nil,_=>.nil|_,_,.cons r t,f=>.cons (f _ _ r) (Paired.mapP t f)
def jI.stay (x:jI P w H h a o)(k:∀b u,(b=a∨H b=some (.own a))->h.get? b=some u->h'.get? b=some u)
  (l:∀b,H b=some (.own a)->H' b=some (.own a))(ht:∀b xs,H b=some (.tup xs)->H' b=some (.tup xs)):jI P w H' h' a o:=by
 induction o with
 |lst xs=>obtain⟨z,i,n,r,e⟩:=x;exact⟨z,i,n,r,k _ _ (.inl rfl) e⟩|tup xs=>obtain⟨z,i,r,ob,e,c⟩:=x;exact⟨z,i,r,ob,k _ _ (.inl rfl) e,c⟩|dK kvs=>obtain⟨z,y,vs,r,ob,E,g,e,c⟩:=x;exact⟨z,y,vs,r,ob,E,g,k _ _ (.inl rfl) e,c⟩|dT kvs=>
  obtain⟨z,y,xs,r,ob,E,g,e,c⟩:=x;exact⟨z,y,xs,Paired.mapP r λp q z=>⟨z.1,ht _ _ z.2.1,z.2.2⟩,ob,E,g,k _ _ (.inl rfl) e,c⟩
 |set S n=>obtain⟨ob,E,g,t,e,c⟩:=x;exact⟨ob,E,g,t,k _ _ (.inl rfl) e,c⟩|ins C D fs=>
  obtain⟨d,z,ne,e,m,⟨j,E,g,A,c⟩,r⟩:=x;exact⟨l _ d,z,ne,k _ _ (.inl rfl) e,m,⟨j,E,g,k _ _ (.inr d) A,c⟩,r⟩
 |own y=>obtain⟨ob,e⟩:=x;exact⟨ob,k _ _ (.inl rfl) e⟩|xd fs=>obtain⟨m,⟨j,E,g,e,c⟩,r⟩:=x;exact⟨m,⟨j,E,g,k _ _ (.inl rfl) e,c⟩,r⟩|rng lo B=>obtain⟨t,u,v,e⟩:=x;exact⟨t,u,v,k _ _ (.inl rfl) e⟩|frz ob u I=>obtain⟨e,q⟩:=x;exact⟨k _ _ (.inl rfl) e,I q⟩|tbl s=>
  have e:h.get? a=some { cls:=.none,data:=.fields s }:=x;show h'.get? a=some { cls:=.none,data:=.fields s };exact k a _ (.inl rfl) e
 |met f y=>
  have e:h.get? a=some (methodObj (.ref f) (.ref y)):=x;show h'.get? a=some (methodObj (.ref f) (.ref y));exact k a _ (.inl rfl) e
 |ext φ=>obtain⟨p,⟨o,e⟩,st⟩:=x;exact⟨st _ _ p λo q=>k _ _ (.inl rfl) q,⟨o,k _ _ (.inl rfl) e⟩,st⟩
theorem jE.lt (x:jE P w H h)(e:H a=some o):a<h.objs.size:=(x a o e).lt
def jE.fresh (x:jE P w H h)(e:h.objs.size<=a):H a=none:=by
 cases q:H a with
 |none=>rfl|some u=>exact absurd (aJ (x.lt q) e) (a5 _)
def jE.kept (x:jE P w H h)(k:∀b u,h.get? b=some u->h'.get? b=some u):jE P w H h':=λa o e=>
 (x a o e).stay (λb u _ q=>k b u q) (λ_ q=>q) λ_ _ q=>q
def jE.laid (x:jE P w H h)(k:∀b u,h.get? b=some u->h'.get? b=some u)(p:h.objs.size<=a)(new:jI P w (upd H a o) h' a o):jE P w (upd H a o) h':=λb u e=>by
 have hn:=x.fresh p
 by_cases d:b=a
 ·subst d;rw[jO]at e;cases e;exact new
 ·rw[qx d]at e
  exact(x b u e).stay (λc v _ q=>k c v q) (λc q=>by rw[qx (wO q hn)];exact q) λc xs q=>by rw[qx (wO q hn)];exact q
end
def Rd (H:Hp)(a:Addr)(u:HO):Prop:=H a=some u∨∃o,H a=some (.frz o u)
def Rd.ok {H:Hp}{u:HO}(r:Rd H a u)(x:jE P w H h):jI P w H h a u:=by
 rcases r with r|⟨o,r⟩
 ·exact x a u r
 ·obtain⟨_,q⟩:=x a _ r
  exact q
noncomputable def KL:Option HO->Prop
 |some (.lst _)=>True|some (.dK _)=>True|some (.dT _)=>True|some (.set _ _)=>True|some (.ins _ _ _)=>True|some (.ext _)=>True|_=>False
section
variable {H:Hp}{x e:Addr}{o':HO}
def jE.write (ok:jE P w H h)(m:KL (H x))(he:e=x∨H e=some (.own x))(k:∀b u,b≠e->h.get? b=some u->h'.get? b=some u)(o:∃u,h'.get? e=some u)
  (new:jI P w (upd H x o') h' x o'):jE P w (upd H x o') h':=λb u q=>by
 have n:∀c y,H c=some (.own y)->c≠x:=λc y r z=>by subst z;rw[r]at m;exact m
 have N:∀c xs,H c=some (.tup xs)->c≠x:=λc xs r z=>by subst z;rw[r]at m;exact m
 by_cases f:b=x
 ·subst f;rw[jO]at q;cases q;exact new
 ·rw[qx f]at q
  by_cases a:b=e
  ·have Q:H b=some (.own x):=by
    rcases he with z|z
    ·exact absurd (a.trans z) f
    ·rw[a];exact z
   rw[q]at Q;cases Q;obtain⟨v,g⟩:=o;exact⟨v,by rw[a];exact g⟩
  ·refine(ok b u q).stay (λc v d r=>k c v ?_ r) (λc r=>by rw[qx (n c b r)];exact r) λc xs r=>by rw[qx (N c xs r)];exact r
   rcases d with rfl|d
   ·exact a
   ·rintro rfl
    rcases he with z|z
    ·exact n c b d z
    ·rw[d]at z;cases z;exact f rfl
end
structure Un (fs ex:b5)(H H':Hp)(h h':Heap):Prop where
 keep:∀b o,h.get? b=some o->H b=none->b∉fs->b∉ex->h'.get? b=some o
 slot:∀b o,h.get? b=some o->H b=none->b∈fs->b∉ex->∃sl,h'.get? b=some { o with slots:=sl }
 free:∀b o,h.get? b=some o->H b=none->b∉ex->H' b=none
 there:∀b o,h.get? b=some o->b∉ex->∃o',h'.get? b=some o'
 tups:∀b xs,H b=some (.tup xs)->H' b=some (.tup xs)
 frzs:∀b o u,H b=some (.frz o u)->H' b=some (.frz o u)
 tbls:∀b ps,H b=some (.tbl ps)->∃more,H' b=some (.tbl (ps++more))
section
variable {fs ex:b5}{H H1:Hp}{h1:Heap}{x e:Addr}{o:HO}
def Un.any (u:Un fs ex H H1 h h1){ob:Obj}(q:h.get? b=some ob)(n:H b=none)(x:b∉ex):∃s,h1.get? b=some { ob with slots:=s }:=by
 by_cases a:b∈fs
 ·exact u.slot b ob q n a x
 ·exact⟨ob.slots,u.keep b ob q n a x⟩
def Un.kept (k:∀b u,h.get? b=some u->h'.get? b=some u):Un fs ex H H h h':=
 ⟨λb ob q _ _ _=>k b ob q,λb ob q _ _ _=>⟨ob.slots,k b ob q⟩,λ_ _ _ n _=>n,λb ob q _=>⟨ob,k b ob q⟩,λ_ _ q=>q,λ_ _ _ q=>q,λ_ p q=>⟨#[],by rw[q];simp⟩⟩
def Un.refl:Un fs ex H H h h:=Un.kept λ_ _ q=>q
def Un.laid (k:∀b u,h.get? b=some u->h'.get? b=some u)(p:h.objs.size<=a)(hn:H a=none):Un fs ex H (upd H a o) h h' where
 keep:=λb u q _ _ _=>k b u q
 slot:=λb u q _ _ _=>⟨u.slots,k b u q⟩
 free:=λb u q n _=>by rw[qx (aM (aJ (aH q) p))];exact n
 there:=λb u q _=>⟨u,k b u q⟩
 tups:=λb xs q=>by rw[qx (wO q hn)];exact q
 frzs:=λb u xs q=>by rw[qx (wO q hn)];exact q
 tbls:=λb P q=>⟨#[],by rw[qx (wO q hn),q];simp⟩
def Un.write (m:KL (H x))(he:e=x∨H e=some (.own x))(k:∀b u,b≠e->h.get? b=some u->h'.get? b=some u)(c:∃u,h'.get? e=some u):Un fs ex H (upd H x o) h h':=by
 have d:∀b,H b=none->b≠x:=λb n z=>by subst z;rw[n]at m;exact m
 have f:∀b,H b=none->b≠e:=λb n z=>by
  subst z;rcases he with r|r
  ·exact d b n r
  ·rw[n]at r;cases r
 have hm:∀b u,H b=some u->¬KL (some u)->b≠x:=λb u q nm z=>by subst z;rw[q]at m;exact nm m
 refine⟨λb u q n _ _=>k b u (f b n) q,λb u q n _ _=>⟨u.slots,k b u (f b n) q⟩,λb u q n _=>by rw[qx (d b n)];exact n,λb u q _=>?_,
  λb xs q=>by rw[qx (hm b _ q λz=>z)];exact q,λb u xs q=>by rw[qx (hm b _ q λz=>z)];exact q,λb p q=>⟨#[],by rw[qx (hm b _ q λz=>z),q];simp⟩⟩
 by_cases a:b=e
 ·subst a;exact c
 ·exact⟨u,k b u a q⟩
end
noncomputable def GJ (h:Heap)(H:Hp):b5:=(List.range h.objs.size).filter λa=>(H a).isSome
def ZV (h:Heap)(H:Hp):Heap:=PySem.W.hideAll h (GJ h H)
def EC (h:Heap)(H:Hp):(ZV h H).objs.size=h.objs.size:=PySem.W.hideAll_size _ _
def DC {H:Hp}{o:Obj}(e:h.get? b=some o)(n:H b=none):(ZV h H).get? b=some o:=
 PySem.W.hideAll_get _ e λhm=>by
  have q:(H b).isSome=true:=(List.mem_filter.mp hm).2;rw[n]at q;simp at q
def BN {H:Hp}{o:Obj}(e:(ZV h H).get? b=some o):h.get? b=some o/\H b=none:=by
 have E:h.get? b=some o:=PySem.W.of_hideAll (GJ h H) e;refine⟨E,?_⟩;cases q:H b with
 |none=>rfl|some x=>
  have hm:b∈GJ h H:=List.mem_filter.mpr ⟨cx.mpr (aH E),by simp[q]⟩
  have z:(ZV h H).get? b=none:=PySem.W.hideAll_none (GJ h H) hm;rw[z]at e;cases e
structure Mod (K:Frag)(mg:cg)(base:Heap):Prop where
 kin:K.In base
 glob:base.Ns mainGlobals mg
 blt:∃mb,base.Ns builtinsNs mb/\∀x:Str,x ≠ "__name__" -> mb x=bootBuiltins x
 nolimit:base.NoLimit
structure Cx where
 prog:Program
 w:World
 K:Frag
 mg:Str->Option Value
 base:Heap
 A:Around
 N:b9
 s0:Shared
 H0:Hp
 env:Env
 outer:ck
 stack:ck
 ex:b5
 fn:Str->Bool
 calm:Bool
 pn:b6
 xe:Value->Shared->Prop
noncomputable def gW (l:ck):b5:=l.filterMap (·.frame)
abbrev Cx.fs (X:Cx):b5:=gW X.outer
def Gz (sc:Scope)(x:Str):Prop:=sc.names.lookup x=some .local∨sc.names.lookup x=some .cell∨sc.names.lookup x=some .free
def Loc (sc:Scope)(x:Str):Prop:=sc.names.lookup x=some .local∨sc.names.lookup x=some .cell
def Look (env:Env)(h:Heap)(m:cg)(x:Str)(u:Value):Prop:=
 (env.kindOf x=some .local/\m x=some u)∨((env.kindOf x=some .cell∨env.kindOf x=some .free)/\∃c,env.cells.lookup x=some c/\h.IsCell c (some u))
structure Cx.Ok (X:Cx):Prop where
 mod:Mod X.K X.mg X.base
 kind:X.env.scope.kind=.function
 glob:X.env.globals=mainGlobals
 blt:X.env.builtins=builtinsNs
 above:X.s0.heap.objs.size<=X.env.locals
 inj:∀x y c,X.env.cells.lookup x=some c->X.env.cells.lookup y=some c->x=y
 has:∀x,(X.env.kindOf x=some .cell∨X.env.kindOf x=some .free)->∃c,X.env.cells.lookup x=some c
 cab:∀x c,X.fn x=true->X.env.cells.lookup x=some c->X.s0.heap.objs.size<=c
 hd:X.calm=true->X.A.handled=none
 frames:X.A.frames=some X.stack
 stk:X.stack=X.outer∨(X.stack=X.env::X.outer/\X.env.frame=some X.env.locals)
 exf:∀b∈X.ex,b≠X.env.locals/\∀x c,X.env.cells.lookup x=some c->c≠b
 bs:∀b o,X.base.get? b=some o->X.s0.heap.get? b=some o/\X.H0 b=none
 bsz:X.base.objs.size<=X.s0.heap.objs.size
 noex:∀b o,X.base.get? b=some o->b∉X.ex
 exfs:∀b∈X.ex,b∉X.fs
 funs:X.s0.heap.FunFrames X.base X.outer
 frf:∀b∈X.fs,X.H0 b=none
structure Inv (X:Cx)(pins:b6)(σ:List (Option V))(H:Hp)(s:Shared):Prop where
 ok:X.Ok
 os:s.os=X.s0.os
 bare:AllBare s.gens
 base:Un X.fs X.ex X.H0 H X.s0.heap s.heap
 loc:∃m,s.heap.Ns X.env.locals m/\∀(i:Nat)(x:Str)(v:V),X.N[i]? =some x->σ[i]? =some (some v)->Gz X.env.scope x->∃u,RelV v u/\Look X.env s.heap m x u
 cell:∀x c,X.env.cells.lookup x=some c->∃v,s.heap.IsCell c v
 free:H X.env.locals=none
 freeC:∀x c,X.env.cells.lookup x=some c->H c=none
 pin:∀p∈X.pn++pins,s.heap.get? p.1=some p.2/\H p.1=none/\p.1≠X.env.locals/\p.1∉X.fs/\∀v,p.2.data≠.cell v
 hok:jE X.prog X.w H s.heap
 len:σ.length=X.N.length
section
variable {X:Cx}{σ:List (Option V)}{H H':Hp}
def Cx.Ok.nofr (ok:X.Ok){o:Obj}(e:X.base.get? b=some o):b∉X.fs:=λh=>by
 have:=(ok.funs.mem h).1
 rw[e]at this;cases this
theorem Inv.bs (I:Inv X pins σ H s):∀b o,X.base.get? b=some o->s.heap.get? b=some o/\H b=none:=λb o e=>
 ⟨I.base.keep b o (I.ok.bs b o e).1 (I.ok.bs b o e).2 (I.ok.nofr e) (I.ok.noex b o e),I.base.free b o (I.ok.bs b o e).1 (I.ok.bs b o e).2 (I.ok.noex b o e)⟩
def Inv.bk (I:Inv X pins σ H s):∀b o,X.base.get? b=some o->s.heap.get? b=some o:=λb o e=>(I.bs b o e).1
theorem Inv.mod (I:Inv X pins σ H s):Mod X.K X.mg X.base:=I.ok.mod
def Inv.kIn (I:Inv X pins σ H s):X.K.In s.heap:=I.ok.mod.kin.keeps I.bk
theorem Inv.lt (I:Inv X pins σ H s):X.env.locals<s.heap.objs.size:=let ⟨_,hn,_⟩:=I.loc;hn.lt
def Inv.sz (I:Inv X pins σ H s):X.s0.heap.objs.size<=s.heap.objs.size:=bw I.ok.above (bJ I.lt)
def Inv.nofs (I:Inv X pins σ H s)(h:s.heap.objs.size<=a):a∉X.fs:=λc=>by
 obtain⟨_,o,b,_⟩:=I.ok.funs.mem c;exact absurd (aJ (aH b) (bw I.sz h)) (a5 _)
def Inv.cne (I:Inv X pins σ H s):∀x c,X.env.cells.lookup x=some c->c≠X.env.locals:=λx c e z=>by
 obtain⟨v,o,b,hd⟩:=I.cell x c e;obtain⟨m,⟨o',E,p,h,a,_⟩,_⟩:=I.loc;rw[z,h]at b;cases b;rw[a]at hd;cases hd
theorem Inv.funs (I:Inv X pins σ H s):s.heap.FunFrames X.base X.outer:=by
 have all:∀(l:ck),(∀b∈gW l,b∈X.fs)->X.s0.heap.FunFrames X.base l->s.heap.FunFrames X.base l:=by
  intro l
  induction l with
  |nil=>intro _ _;trivial|cons env r i=>
   intro c g;obtain⟨j,⟨L,o,hf,hn,f,hd⟩,d⟩:=g;have a:L∈X.fs:=c L (by unfold gW;rw[List.filterMap_cons,hf];exact ay)
   obtain⟨S,e⟩:=I.base.slot L o f (I.ok.frf L a) a λz=>I.ok.exfs L z a;exact⟨j,⟨L,_,hf,hn,e,hd⟩,i (λb h=>c b (by unfold gW;rw[List.filterMap_cons,hf];exact aw _ h)) d⟩
 exact all X.outer (λ_ h=>h) I.ok.funs
theorem Inv.stack (I:Inv X pins σ H s):s.heap.FunFrames X.base X.stack:=by
 rcases I.ok.stk with e|⟨e,hf⟩
 ·rw[e];exact I.funs
 ·rw[e]
  obtain⟨m,hn,_⟩:=I.loc;refine .cons (by rw[I.ok.kind];decide) hf hn ?_ I.funs
  exact Heap.get?_none_of_le (bw I.ok.bsz I.ok.above)
def Inv.stkSub (I:Inv X pins σ H s):∀b∈gW X.stack,b∈X.env.locals::X.fs:=λb h=>by
 rcases I.ok.stk with e|⟨e,hf⟩
 ·rw[e]at h;exact aw _ h
 ·rw[e]at h
  unfold gW at h;rw[List.filterMap_cons,hf]at h;exact h
def Inv.stkFree (I:Inv X pins σ H s):∀b∈gW X.stack,H b=none:=λb h=>by
 rcases cy.mp (I.stkSub b h) with e|h
 ·rw[e];exact I.free
 ·obtain⟨_,o,a,_⟩:=I.ok.funs.mem h
  exact I.base.free b o a (I.ok.frf b h) λz=>I.ok.exfs b z h
def Inv.step {g':Array GenState}{d':Drawn}{ch:b5}(I:Inv X pins σ H s)
  (a:∀b∈ch,(b∈X.ex∨X.s0.heap.objs.size<=b)/\b≠X.env.locals/\(∀x c,X.env.cells.lookup x=some c->c≠b)/\∀p∈X.pn++pins,p.1≠b)
  (keep:∀b o,b≠X.env.locals->b∉X.fs->b∉ch->s.heap.get? b=some o->H b=none->h'.get? b=some o)
  (slot:∀b o,b≠X.env.locals->b∈X.fs->b∉ch->s.heap.get? b=some o->H b=none->∃t,h'.get? b=some { o with slots:=t })(free:∀b o,b∉ch->s.heap.get? b=some o->H b=none->H' b=none)
  (there:∀b o,b∉ch->s.heap.get? b=some o->∃o',h'.get? b=some o')
  (tups:∀b xs,H b=some (.tup xs)->H' b=some (.tup xs))(frzs:∀b o u,H b=some (.frz o u)->H' b=some (.frz o u))(tbls:∀b P,H b=some (.tbl P)->∃more,H' b=some (.tbl (P++more)))
  (ns:∀m,s.heap.Ns X.env.locals m->h'.Ns X.env.locals m)(hok:jE X.prog X.w H' h')(J:AllBare g'):
  Inv X pins σ H' { s with heap:=h',gens:=g',drawn:=d',toks:=t' }:=by
 have KD:∀b o,X.s0.heap.get? b=some o->b≠X.env.locals:=λb o e=>aM (aJ (aH e) I.ok.above);have C:∀b o,X.s0.heap.get? b=some o->b∉X.ex->b∉ch:=λb o e h f=>by
  rcases(a b f).1 with z|z
  ·exact h z
  ·exact absurd (aJ (aH e) z) (a5 _)
 have cellK:∀x c,X.env.cells.lookup x=some c->∀v,s.heap.IsCell c v->h'.IsCell c v:=λx c e v ⟨o,g,hd⟩=>by
  have N:c∉ch:=λz=>(a c z).2.2.1 x c e rfl
  by_cases B:c∈X.fs
  ·obtain⟨t,q⟩:=slot c o (I.cne x c e) B N g (I.freeC x c e)
   exact⟨_,q,hd⟩
  ·exact⟨o,keep c o (I.cne x c e) B N g (I.freeC x c e),hd⟩
 refine⟨I.ok,I.os,J,⟨λb o e n f h=>?_,λb o e n f h=>?_,λb o e n h=>?_,λb o e h=>?_,λb xs e=>tups b xs (I.base.tups b xs e),λb o xs e=>frzs b o xs (I.base.frzs b o xs e),λb P e=>?_⟩,?_,λx c e=>?_,?_,λx c e=>?_,λp A=>?_,hok,I.len⟩
 ·exact keep b o (KD b o e) f (C b o e h) (I.base.keep b o e n f h) (I.base.free b o e n h)
 ·obtain⟨t,E⟩:=I.base.slot b o e n f h
  obtain⟨S,j⟩:=slot b _ (KD b o e) f (C b o e h) E (I.base.free b o e n h);exact⟨S,j⟩
 ·obtain⟨o',E⟩:=I.base.there b o e h
  exact free b o' (C b o e h) E (I.base.free b o e n h)
 ·obtain⟨o',E⟩:=I.base.there b o e h
  exact there b o' (C b o e h) E
 ·obtain⟨m1,E⟩:=I.base.tbls b P e
  obtain⟨m2,j⟩:=tbls b _ E;exact⟨m1++m2,by rw[j,Array.append_assoc]⟩
 ·obtain⟨m,hn,D⟩:=I.loc
  refine⟨m,ns m hn,λi x v E j K=>?_⟩;obtain⟨u,r,l⟩:=D i x v E j K;refine⟨u,r,?_⟩;rcases l with l|⟨k,c,e,z⟩
  ·exact .inl l
  ·exact .inr ⟨k,c,e,cellK x c e _ z⟩
 ·obtain⟨v,z⟩:=I.cell x c e
  exact⟨v,cellK x c e v z⟩
 ·obtain⟨m,⟨o,_,_,g,_⟩,_⟩:=I.loc
  exact free _ o (λz=>(a _ z).2.1 rfl) g I.free
 ·obtain⟨v,o,g,hd⟩:=I.cell x c e
  exact free c o (λz=>(a c z).2.2.1 x c e rfl) g (I.freeC x c e)
 ·obtain⟨e,n,ne,y,d⟩:=I.pin p A
  have N:p.1∉ch:=λz=>(a p.1 z).2.2.2 p A rfl;exact⟨keep p.1 p.2 ne y N e n,free p.1 p.2 N e n,ne,y,d⟩
def Inv.un (I:Inv X pins σ H s)(u:Un X.fs [] H H' s.heap h')(hok:jE X.prog X.w H' h'):Inv X pins σ H' { s with heap:=h',toks:=t' }:=by
 obtain⟨m,⟨o,f,p,c,r⟩,_⟩:=id I.loc;obtain⟨S,L⟩:=u.any c I.free (by simp)
 exact I.step (g':=s.gens) (d':=s.drawn) (ch:=[]) (λ_ z=>nomatch z) (λb o _ a _ e n=>u.keep b o e n a (by simp)) (λb o _ a _ e n=>u.slot b o e n a (by simp)) (λb o _ e n=>u.free b o e n (by simp)) (λb o _ e=>u.there b o e (by simp)) u.tups u.frzs u.tbls (λm' hm=>by
  obtain⟨o',es',E,h,d⟩:=hm;rw[c]at h;cases h;exact⟨_,es',E,L,d⟩) hok I.bare
def Inv.call {g':Array GenState}{d':Drawn}{ch:b5}(I:Inv X pins σ H s)(u:Un (gW X.stack) ch H H' s.heap h')(hok:jE X.prog X.w H' h')(i:AllBare g')
  (d:∀b∈ch,(b∈X.ex∨X.s0.heap.objs.size<=b)/\b≠X.env.locals/\(∀x c,X.env.cells.lookup x=some c->c≠b)/\∀p∈X.pn++pins,p.1≠b):
  Inv X pins σ H' { s with heap:=h',gens:=g',drawn:=d',toks:=t' }:=by
 obtain⟨m,⟨o,l,q,f,r⟩,_⟩:=id I.loc;obtain⟨S,L⟩:=u.any f I.free λz=>(d _ z).2.1 rfl;exact I.step (ch:=ch) d (λb o L j h e n=>u.keep b o e n (λz=>(cy.mp (I.stkSub b z)).elim L j) h) (λb o _ _ h e n=>u.any e n h) (λb o h e n=>u.free b o e n h) (λb o h e=>u.there b o e h) u.tups u.frzs u.tbls (λm' hm=>by
  obtain⟨o',es',E,a,g⟩:=hm;rw[f]at a;cases a;exact⟨_,es',E,L,g⟩) hok i
def Inv.turned (I:Inv X pins σ H s)(k:∀b o,b≠it->s.heap.get? b=some o->h'.get? b=some o)(hn:H it=none)(L:it≠X.env.locals)
  (i:it∈X.ex∨X.s0.heap.objs.size<=it)(g:∀x c,X.env.cells.lookup x=some c->c≠it)(f:∀p∈X.pn++pins,p.1≠it):Inv X pins σ H { s with heap:=h',toks:=t' }:=by
 have N:∀b u,H b=some u->b≠it:=λb u e z=>by rw[z,hn]at e;cases e
 refine I.step (g':=s.gens) (d':=s.drawn) (ch:=[it]) (λb d=>?_) (λb o _ _ h e _=>k b o (λz=>h (by simp[z])) e) (λb o _ _ h e _=>⟨o.slots,k b o (λz=>h (by simp[z])) e⟩) (λ_ _ _ _ n=>n)
  (λb o h e=>⟨o,k b o (λz=>h (by simp[z])) e⟩) (λ_ _ e=>e) (λ_ _ _ e=>e) (λb P e=>⟨#[],by rw[e];simp⟩) (λm hm=>?_) (λb u e=>?_) I.bare
 ·have e:b=it:=by simpa using d
  subst e;exact⟨i,L,g,f⟩
 ·obtain⟨o,E,j,a,r⟩:=hm
  exact⟨o,E,j,k _ o (Ne.symm L) a,r⟩
 ·refine(I.hok b u e).stay (λc v h q=>k c v ?_ q) (λ_ q=>q) λ_ _ q=>q
  rcases h with z|z
  ·rw[z];exact N b u e
  ·exact N c _ z
def Inv.tok (I:Inv X pins σ H s)(t:Nat):Inv X pins σ H { s with toks:=t }:=I.un (h':=s.heap) (t':=t) Un.refl I.hok
theorem Inv.kept (I:Inv X pins σ H s)(k:∀b u,s.heap.get? b=some u->h'.get? b=some u):Inv X pins σ H { s with heap:=h',toks:=t' }:=I.un (Un.kept k) (I.hok.kept k)
theorem Inv.laid {o:HO}(I:Inv X pins σ H s)(k:∀b u,s.heap.get? b=some u->h'.get? b=some u)(h:s.heap.objs.size<=a)(new:jI X.prog X.w (upd H a o) h' a o):
  Inv X pins σ (upd H a o) { s with heap:=h',toks:=t' }:=I.un (Un.laid k h (I.hok.fresh h)) (I.hok.laid k h new)
theorem Inv.write {x e:Addr}{o:HO}(I:Inv X pins σ H s)(m:KL (H x))(he:e=x∨H e=some (.own x))(k:∀b u,b≠e->s.heap.get? b=some u->h'.get? b=some u)(h:∃u,h'.get? e=some u)
  (new:jI X.prog X.w (upd H x o) h' x o):Inv X pins σ (upd H x o) { s with heap:=h',toks:=t' }:=I.un (Un.write m he k h) (I.hok.write m he k h new)
def Inv.pins_of {P:b6}(I:Inv X pins σ H s)(h:∀p∈P,s.heap.get? p.1=some p.2/\H p.1=none/\p.1≠X.env.locals/\p.1∉X.fs/\∀v,p.2.data≠.cell v):Inv X P σ H s:=
 ⟨I.ok,I.os,I.bare,I.base,I.loc,I.cell,I.free,I.freeC,λp a=>(List.mem_append.mp a).elim (λz=>I.pin p (aY _ z)) (h p),I.hok,I.len⟩
def Oi (h:N.Nodup){j:Nat}(a:N[i]? =some x)(b:N[j]? =some x):i=j:=by
 obtain⟨c,E⟩:=cA.mp a;obtain⟨H,e⟩:=cA.mp b;exact(getElem_inj h).mp (E.trans e.symm)
def R9 {A:Around}{v:V}{Q:Unit->Shared->Prop}(I:Inv X pins σ H s)(hN:X.N.Nodup)(U:X.N[i]? =some x)(t:Loc X.env.scope x)(r:RelV v u)
  (h:∀s',Inv X pins (σ.set i (some v)) H s'->(∃a,Heap.SameBut a s.heap s'.heap/\(a=X.env.locals∨X.env.cells.lookup x=some a))->Q () s')(hf:X.fn x=true∨X.env.scope.names.lookup x=some .local:=by first|exact .inl rfl|exact .inr rfl|assumption):wpAny M A (storeName X.env x u) Q E s:=by
 obtain⟨m,hn,hl⟩:=id I.loc;have Y:(X.env.scope.kind==.class || (X.env.scope.kind==.module&&X.env.locals != X.env.globals))=false:=by rw[I.ok.kind];rfl
 have J:i < σ.length:=by rw[I.len];exact(cA.mp U).1
 have cne:=I.cne;have tracked:∀{a:Addr}{h':Heap},(∃o,s.heap.get? a=some o/\H a=none)->Heap.SameBut a s.heap h'->jE X.prog X.w H h':=λ {a h'} ha f b ob e=>by
  obtain⟨_,_,B⟩:=ha;refine(I.hok b ob e).stay (λc w' l q=>(f.2 c ?_).trans q) (λ_ q=>q) λ_ _ q=>q
  rintro rfl
  rcases l with rfl|l
  ·rw[B]at e;cases e
  ·rw[B]at l;cases l
 rcases t with D|D
 ·refine wpAny_storeName_local D hn (λh' hn' f=>?_) Y
  obtain⟨oL,_,_,hoL,_⟩:=id hn;refine h _ ⟨I.ok,I.os,I.bare,⟨λb o e n P t=>?_,λb o e n P t=>?_,I.base.free,λb o e t=>?_,I.base.tups,I.base.frzs,I.base.tbls⟩,⟨_,hn',λj y v' g C e3=>?_⟩,λy c e=>?_,I.free,I.freeC,λp hp=>?_,tracked ⟨oL,hoL,I.free⟩ f,by simpa using I.len⟩ ⟨_,f,.inl rfl⟩
  ·exact(f.2 b (aM (aJ (aH e) I.ok.above))).trans (I.base.keep b o e n P t)
  ·obtain⟨sl,g⟩:=I.base.slot b o e n P t
   exact⟨sl,(f.2 b (aM (aJ (aH e) I.ok.above))).trans g⟩
  ·obtain⟨o',g⟩:=I.base.there b o e t
   exact⟨o',(f.2 b (aM (aJ (aH e) I.ok.above))).trans g⟩
  ·by_cases K:j=i
   ·subst K
    rw[U]at g;cases g;rw[aT J]at C;cases C;exact⟨u,r,.inl ⟨D,by simp⟩⟩
   ·rw[aP (Ne.symm K)]at C
    obtain⟨u',r',q⟩:=hl j y v' g C e3;refine⟨u',r',?_⟩;rcases q with ⟨k,e⟩|⟨k,c,e,z⟩
    ·refine .inl ⟨k,?_⟩
     have:y≠x:=λe=>K (Oi hN g (e ▸ U))
     simp[this,e]
    ·exact .inr ⟨k,c,e,z.sameBut f (cne y c e)⟩
  ·obtain⟨w',z⟩:=I.cell y c e
   exact⟨w',z.sameBut f (cne y c e)⟩
  ·obtain⟨e,n,ne,nf,d⟩:=I.pin p hp
   exact⟨(f.2 p.1 ne).trans e,n,ne,nf,d⟩
 ·have L:X.fn x=true:=by
   rcases hf with z|z
   ·exact z
   ·rw[z]at D;cases D
  obtain⟨c,l⟩:=I.ok.has x (.inl D);obtain⟨w',z⟩:=I.cell x c l;refine wpAny_storeName_cell I.ok.kind D l z (λh' hc' f=>?_);obtain⟨oc,T,S⟩:=id z;refine h { s with heap:=h' } ⟨I.ok,I.os,I.bare,⟨λb o e n P t=>?_,λb o e n P t=>?_,I.base.free,λb o e t=>?_,I.base.tups,I.base.frzs,I.base.tbls⟩,⟨m,hn.sameBut f (Ne.symm (cne x c l)),λj y v' g C e3=>?_⟩,λy c' e=>?_,I.free,I.freeC,λp hp=>?_,tracked ⟨oc,T,I.freeC x c l⟩ f,by simpa using I.len⟩ ⟨c,f,.inr l⟩
  ·exact(f.2 b (aM (aJ (aH e) (I.ok.cab x c L l)))).trans (I.base.keep b o e n P t)
  ·obtain⟨sl,g⟩:=I.base.slot b o e n P t
   exact⟨sl,(f.2 b (aM (aJ (aH e) (I.ok.cab x c L l)))).trans g⟩
  ·obtain⟨o',g⟩:=I.base.there b o e t
   exact⟨o',(f.2 b (aM (aJ (aH e) (I.ok.cab x c L l)))).trans g⟩
  ·by_cases K:j=i
   ·subst K
    rw[U]at g;cases g;rw[aT J]at C;cases C;exact⟨u,r,.inr ⟨.inl D,c,l,hc'⟩⟩
   ·rw[aP (Ne.symm K)]at C
    obtain⟨u',r',q⟩:=hl j y v' g C e3;refine⟨u',r',?_⟩;rcases q with q|⟨k,c',e,z'⟩
    ·exact .inl q
    ·refine .inr ⟨k,c',e,z'.sameBut f ?_⟩
     rintro rfl
     exact K (Oi hN g (I.ok.inj _ _ _ e l ▸ U))
  ·by_cases Z:c'=c
   ·subst Z;exact⟨_,hc'⟩
   ·obtain⟨w2,z2⟩:=I.cell y c' e
    exact⟨w2,z2.sameBut f Z⟩
  ·obtain⟨e,n,ne,nf,d⟩:=I.pin p hp
   refine⟨(f.2 p.1 ?_).trans e,n,ne,nf,d⟩;intro q;rw[q,T]at e;have q':oc=p.2:=aC e;exact d w' (by rw[<- q'];exact S)
def Oa {A:Around}{v:V}{Q:Unit->Shared->Prop}(I:Inv X pins σ H s)(c:X.N.Nodup)(b:X.N[i]? =some x)(a:Loc X.env.scope x)(r:RelV v u)
  (h:∀S,Inv X pins (σ.set i (some v)) H S->Q () S)(hf:X.fn x=true∨X.env.scope.names.lookup x=some .local:=by first|exact .inl rfl|exact .inr rfl|assumption):wpAny M A (storeName X.env x u) Q E s:=
 R9 I c b a r (λS d _=>h S d) hf
def Inv.call' {S:Shared}{ch:b5}(I:Inv X pins σ H s)(o:S.os=s.os)(u:Un (gW X.stack) ch H H' s.heap S.heap)(hok:jE X.prog X.w H' S.heap)(g:AllBare S.gens)
  (h:∀b∈ch,(b∈X.ex∨X.s0.heap.objs.size<=b)/\b≠X.env.locals/\(∀x c,X.env.cells.lookup x=some c->c≠b)/\∀p∈X.pn++pins,p.1≠b):Inv X pins σ H' S:=by
 obtain⟨h',g',d',t',o'⟩:=S;have e:o'=s.os:=o;subst e;exact I.call (g':=g') (t':=t') (d':=d') u hok g h
end
abbrev XK:=Value->Option Addr->Hp->Prop
noncomputable abbrev St:=List (Option V)
abbrev VK:=V->Hp->Prop
abbrev TE:=St->Hp->VK->Prop
abbrev TT:=St->Hp->(Bool->Hp->Prop)->Prop
abbrev TA:=St->Hp->(List V->Hp->Prop)->Prop
structure Ends where
 nx:St->Hp->Prop
 rt:VK
 bk:St->Hp->Prop:=λ_ _=>False
 ct:St->Hp->Prop:=λ_ _=>False
abbrev TS:=Ends->St->Hp->Prop
inductive EP (X:Cx)(pins:b6)(σ:St)(Q:VK)(u:Value)(s':Shared):Prop
 |mk (v:V) (H':Hp) (I:Inv X pins σ H' s') (r:RelV v u) (q:Q v H')
def TP (X:Cx)(pins:b6)(σ:St)(Q:Bool->Hp->Prop)(b:Bool)(s:Shared):Prop:=∃H,Inv X pins σ H s/\Q b H
inductive AP (X:Cx)(pins:b6)(σ:St)(Q:List V->Hp->Prop)(us:b4)(s':Shared):Prop
 |mk (vs:List V) (H':Hp) (I:Inv X pins σ H' s') (r:Vals vs us) (q:Q vs H')
def SP (X:Cx)(pins:b6)(D:Ends)(f:Flow)(s:Shared):Prop:=
 match f with
 |.next=>∃a H,Inv X pins a H s/\D.nx a H|.brk=>∃a H,Inv X pins a H s/\D.bk a H|.cont=>∃a H,Inv X pins a H s/\D.ct a H|.ret u=>∃v a H,Inv X pins a H s/\RelV v u/\D.rt v H
def PE (X:Cx)(e:Expr)(t:TE):Prop:=
 ∀(pins:b6)(s:Shared)(σ:St)(H:Hp)(Q:VK),Inv X pins σ H s->t σ H Q->wpAny (model X.prog X.w) X.A (eval e X.env) (EP X pins σ Q) X.xe s
def PT (X:Cx)(e:Expr)(t:TT):Prop:=
 ∀(pins:b6)(s:Shared)(σ:St)(H:Hp)(Q:Bool->Hp->Prop),Inv X pins σ H s->t σ H Q->wpAny (model X.prog X.w) X.A (isTrue e X.env (eval e X.env)) (TP X pins σ Q) X.xe s
def PW (X:Cx)(e:Expr)(t:TT):Prop:=
 ∀(whole:Sem Value)(pins:b6)(s:Shared)(σ:St)(H:Hp)(Q:Bool->Hp->Prop),Inv X pins σ H s->t σ H Q->wpAny (model X.prog X.w) X.A (isTrue e X.env whole) (TP X pins σ Q) X.xe s
def PW.pt {X:Cx}{t:TT}(h:PW X e t):PT X e t:=h _
def PA (X:Cx)(e:cc)(t:TA):Prop:=
 ∀(pos:Pos)(pins:b6)(s:Shared)(σ:St)(H:Hp)(Q:List V->Hp->Prop),Inv X pins σ H s->t σ H Q->wpAny (model X.prog X.w) X.A (spliced (backTo pos (starEach e X.env))) (AP X pins σ Q) X.xe s
def PS (X:Cx)(st:Stmt)(t:TS):Prop:=
 ∀(pins:b6)(s:Shared)(σ:St)(H:Hp)(D:Ends),Inv X pins σ H s->t D σ H->wpAny (model X.prog X.w) X.A (exec st X.env) (SP X pins D) X.xe s
def yS (X:Cx)(st:cq)(t:TS):Prop:=
 ∀(pins:b6)(s:Shared)(σ:St)(H:Hp)(D:Ends),Inv X pins σ H s->t D σ H->wpAny (model X.prog X.w) X.A (execs st X.env) (SP X pins D) X.xe s
def zU {t:Sem α}{Q Q':α->Shared->Prop}{A:Around}(h:wpAny M A t Q E s)(H:∀a s,Q a s->Q' a s):wpAny M A t Q' E s:=wpAny_mono h H λ_ _ x=>x
section
variable {X:Cx}
noncomputable def cI (i:Nat):TE:=λσ H Q=>∃v,σ[i]? =some (some v)/\Q v H
noncomputable def tC (v:V):TE:=λ_ H Q=>Q v H
def cJ (n:X.N[i]? =some x)(g:Gz X.env.scope x)(hd:(x==("__debug__":Str))=false:=by decide)(d:(x==("__classdict__":Str))=false:=by decide):PE X (.Name x pos) (cI i):=by
 intro pins s σ H Q I h;obtain⟨v,e,h⟩:=h;obtain⟨m,hn,j⟩:=I.loc;obtain⟨u,r,l⟩:=j i x v n e g;have fin:EP X pins σ Q u s:=⟨v,H,I,r,h⟩;rcases l with ⟨b,hm⟩|⟨b,c,f,a⟩
 ·exact wpAny_Name (wpAny_loadName_local I.ok.kind b hn hm fin) hd
 ·rcases b with b|b
  ·exact wpAny_Name (wpAny_loadName_cell I.ok.kind b f a fin) hd
  ·exact wpAny_Name (wpAny_loadName_free I.ok.kind b f a fin d) hd
def cK {i j pos}:PE X (.Constant (.int i) j pos) (tC (.int i)):=λ_ _ _ H _ I h=>wpAny_Constant_int ⟨.int i,H,I.tok _,⟨_,rfl⟩,h⟩
def cL {b j pos}:PE X (.Constant (.bool b) j pos) (tC (.bl b)):=λ_ _ _ H _ I h=>Constant_bool ⟨.bl b,H,I,rfl,h⟩
def cM {j pos}:PE X (.Constant .none j pos) (tC .non):=λ_ _ _ H _ I h=>Constant_none ⟨.non,H,I,rfl,h⟩
def Gl (X:Cx)(x:Str):Prop:=X.env.kindOf x=some .globalImplicit
def OS {σ:St}{H:Hp}(I:Inv X pins σ H s)(g:Gl X x)(hm:X.mg x=some u)(h:Q u s)
  (hd:(x==("__debug__":Str))=false:=by decide):wpAny (model X.prog X.w) X.A (eval (.Name x pos) X.env) Q E s:=
 Calls.Name_function_global I.ok.kind g (Calls.loadGlobal_global (by rw[I.ok.glob];exact I.mod.glob.keeps I.bk) hm h) hd
def Zf {σ:St}{H:Hp}(I:Inv X pins σ H s)(g:Gl X x)(hm:X.mg x=none)(v:bootBuiltins x=some u)(h:Q u s)
  (hn:x ≠ "__name__":=by decide)(hd:(x==("__debug__":Str))=false:=by decide):wpAny (model X.prog X.w) X.A (eval (.Name x pos) X.env) Q E s:=by
 obtain⟨mb,b,a⟩:=I.mod.blt;exact Calls.Name_function_global I.ok.kind g (Calls.loadGlobal_builtin (by rw[I.ok.glob];exact I.mod.glob.keeps I.bk) hm (by rw[I.ok.blt];exact b.keeps I.bk) ((a x hn).trans v) h) hd
def BG {v:V}(g:Gl X x)(hm:X.mg x=some u)(r:RelV v u)(hd:(x==("__debug__":Str))=false:=by decide):PE X (.Name x pos) (tC v):=
 λ_ _ _ H _ I h=>OS I g hm ⟨v,H,I,r,h⟩ hd
def B9 {v:V}(g:Gl X x)(hm:X.mg x=none)(a:bootBuiltins x=some u)(r:RelV v u)(hn:x ≠ "__name__":=by decide)(hd:(x==("__debug__":Str))=false:=by decide):PE X (.Name x pos) (tC v):=
 λ_ _ _ H _ I h=>Zf I g hm a ⟨v,H,I,r,h⟩ hn hd
variable {a b:Expr}{ta tb:TE}
def Cy (b:Expr)(h:op≠.In)(H:op≠.NotIn):behindInMarks op b=false:=by
 have E:(op==CmpOp.In)=false:=by cases op<;>first|rfl|exact absurd rfl h
 have e:(op==CmpOp.NotIn)=false:=by cases op<;>first|rfl|exact absurd rfl H
 cases b<;>simp[behindInMarks,E,e]
noncomputable def tB (t:TE):TT:=λσ H Q=>t σ H λx H1=>∃c,x=.bl c/\Q c H1
def cN {t:TE}(h:PE X e t)(he:∀whole,isTrue e X.env whole=(do let v <- whole;standAt e.pos;holding [v] (truthy v)):=by intro _;rfl):PT X e (tB t):=by
 intro pins s σ H Q I hw;refine isTrue_plain (zU (h pins s σ H _ I hw) λv s1 ⟨x,H1,i,r,a⟩=>?_) (he _);obtain⟨d,rfl,q⟩:=a;cases r;exact wpAny_truthy_bool ⟨H1,i,q⟩
variable {tA tB':TT}{rest:cc}
noncomputable def cO (t u:TT):TT:=λσ H Q=>t σ H λc H1=>if c=true then u σ H1 Q else Q false H1
noncomputable def cP (t u:TT):TT:=λσ H Q=>t σ H λc H1=>if c=true then Q true H1 else u σ H1 Q
noncomputable def cQ (t:TT):TT:=λσ H Q=>t σ H λc H1=>Q (!c) H1
def pw_and1 (b:PT X a tA):PW X (.BoolOp .And [a] pos) tA:=by
 intro w pins s σ H Q I h;refine isTrue_and (zU (b pins s σ H Q I h) λc s1 e=>?_);cases c with
 |true=>exact isTrue_and_nil e|false=>exact e
def pw_or1 (b:PT X a tA):PW X (.BoolOp .Or [a] pos) tA:=by
 intro w pins s σ H Q I h;refine isTrue_or (zU (b pins s σ H Q I h) λc s1 e=>?_);cases c with
 |false=>exact isTrue_or_nil e|true=>exact e
def pw_and (e:PT X a tA)(d:PW X (.BoolOp .And (b::rest) pos) tB'):PW X (.BoolOp .And (a::b::rest) pos) (cO tA tB'):=by
 intro w pins s σ H Q I h;refine isTrue_and (zU (e pins s σ H _ I h) λc s1 ⟨H1,i,q⟩=>?_);cases c with
 |true=>exact d w pins s1 σ H1 Q i q|false=>exact⟨H1,i,q⟩
def pw_or (e:PT X a tA)(d:PW X (.BoolOp .Or (b::rest) pos) tB'):PW X (.BoolOp .Or (a::b::rest) pos) (cP tA tB'):=by
 intro w pins s σ H Q I h;refine isTrue_or (zU (e pins s σ H _ I h) λc s1 ⟨H1,i,q⟩=>?_);cases c with
 |true=>exact⟨H1,i,q⟩|false=>exact d w pins s1 σ H1 Q i q
def cR (b:PT X a tA):PT X (.UnaryOp .Not a pos) (cQ tA):=by
 intro pins s σ H Q I h;exact isTrue_not (b pins s σ H (λc H1=>Q (!c) H1) I h)
noncomputable def cS (T t:TE):TE:=λσ H Q=>T σ H λx H1=>∃c,x=.bl c/\if c=true then t σ H1 Q else Q (.bl false) H1
noncomputable def cT (T t:TE):TE:=λσ H Q=>T σ H λx H1=>∃c,x=.bl c/\if c=true then Q (.bl true) H1 else t σ H1 Q
noncomputable def cU (t:TE):TE:=λσ H Q=>t σ H λx H1=>∃c,x=.bl c/\Q (.bl (!c)) H1
def cV {op}{t:TE}(h:PE X a t):PE X (.BoolOp op [a] pos) t:=λpins s σ H Q I hw=>BoolOp_one (h pins s σ H Q I hw)
def cW (e:PE X a ta)(d:PE X (.BoolOp .And (b::rest) pos) tb):PE X (.BoolOp .And (a::b::rest) pos) (cS ta tb):=by
 intro pins s σ H Q I h;refine BoolOp_and (zU (e pins s σ H _ I h) λv s1 ⟨x,H1,i,r,q⟩=>?_);obtain⟨c,rfl,q⟩:=q;cases r;refine wpAny_truthy_bool ?_;cases c with
 |true=>exact d pins s1 σ H1 Q i q|false=>exact⟨.bl false,H1,i,rfl,q⟩
def cX (e:PE X a ta)(d:PE X (.BoolOp .Or (b::rest) pos) tb):PE X (.BoolOp .Or (a::b::rest) pos) (cT ta tb):=by
 intro pins s σ H Q I h;refine BoolOp_or (zU (e pins s σ H _ I h) λv s1 ⟨x,H1,i,r,q⟩=>?_);obtain⟨c,rfl,q⟩:=q;cases r;refine wpAny_truthy_bool ?_;cases c with
 |false=>exact d pins s1 σ H1 Q i q|true=>exact⟨.bl true,H1,i,rfl,q⟩
def cY (b:PE X a ta):PE X (.UnaryOp .Not a pos) (cU ta):=by
 intro pins s σ H Q I h;refine UnaryOp_ (zU (b pins s σ H _ I h) λv s1 ⟨x,H1,i,r,q⟩=>?_);obtain⟨c,rfl,q⟩:=q;cases r;exact not_of (wpAny_truthy_bool ⟨.bl (!c),H1,i,rfl,q⟩)
noncomputable def cZ (t:TT)(a T:TE):TE:=λσ H Q=>t σ H λc H1=>if c=true then a σ H1 Q else T σ H1 Q
def D2 {c:Expr}(e:PT X c tA)(g:PE X a ta)(f:PE X b tb):PE X (.IfExp c a b pos) (cZ tA ta tb):=by
 intro pins s σ H Q I h;refine wpAny_IfExp (zU (e pins s σ H _ I h) λd s1 ⟨H1,i,q⟩=>?_);cases d with
 |true=>exact g pins s1 σ H1 Q i q|false=>exact f pins s1 σ H1 Q i q
end
def qC (K:Frag)(H:Hp)(a:Addr)(xs:List V):Prop:=
 Rd H a (.lst xs)∨
  ∃(o:Obj) (its:Array Value) (n:Nat),K.lookup a=some o/\o.cls=.type "list" /\ o.dict=none/\o.data=.seq its n/\its.size<=sizeLine/\Vals xs its.toList
def qw (K:Frag)(H:Hp)(a:Addr)(xs:List V):Prop:=
 Rd H a (.tup xs)∨
  ∃(o:Obj) (its:Array Value) (n:Nat),K.lookup a=some o/\(o.cls=.type "tuple" /\ o.dict=none)/\o.data=.seq its n/\its.size<=sizeLine/\Vals xs its.toList
noncomputable def c0:Value->Option V
 |.none=>some .non|.bool b=>some (.bl b)|.int i _=>some (.int i)|.str x _=>some (.str x)|.bytes b _=>some (.byt b)|.float b _=>some (.flt b)|.ref a=>some (.ref a)|.type n=>some (.ty n)|_=>none
def RelV.abs {x:V}(r:RelV x u):c0 u=some x:=by
 cases x with
 |non=>cases r;rfl|bl _=>cases r;rfl|int _=>obtain⟨t,rfl⟩:=r;rfl|str _=>obtain⟨t,rfl⟩:=r;rfl|byt _=>obtain⟨t,rfl⟩:=r;rfl|flt _=>obtain⟨t,rfl⟩:=r;rfl|ref _=>cases r;rfl|ty _=>cases r;rfl
def RelV.inj {x y:V}(r:RelV x u)(q:RelV y u):x=y:=aC (r.abs.symm.trans q.abs)
theorem Vals.inj:∀{xs y:List V}{us:b4},Vals xs us->Vals y us->xs=y
 |_,_,_,.nil,.nil=>rfl|_,_,_,.cons r t,.cons a t'=>by rw[r.inj a,Vals.inj t t']
section
variable {X:Cx}{σ:St}{H:Hp}{xs ys:List V}
def qC.of {K:Frag}(h:H a=some (.lst xs)):qC K H a xs:=.inl (.inl h)
def qw.of {K:Frag}(h:H a=some (.tup xs)):qw K H a xs:=.inl (.inl h)
def Inv.list (I:Inv X pins σ H s)(h:qC X.K H a xs):∃i:b4,Vals xs i/\PlainL s.heap a i.toArray/\xs.length<=sizeLine:=by
 rcases h with h|⟨o,i,n,c,d,hd,b,f,r⟩
 ·obtain⟨z,i,n,r,e⟩:=h.ok I.hok
  exact⟨i,r,⟨_,n,e,rfl,rfl,rfl⟩,z⟩
 ·refine⟨i.toList,r,⟨o,n,I.kIn a o c,d,hd,by simpa using b⟩,?_⟩
  have e:=r.length;simp only[aO]at e;omega
def Inv.tuple (I:Inv X pins σ H s)(h:qw X.K H a xs):∃i:b4,Vals xs i/\IsTup s.heap a i.toArray/\xs.length<=sizeLine:=by
 rcases h with h|⟨o,i,n,c,d,b,f,r⟩
 ·obtain⟨z,i,r,p⟩:=h.ok I.hok
  exact⟨i,r,p.tup,z⟩
 ·refine⟨i.toList,r,⟨o,I.kIn a o c,d.1,n,by simpa using b⟩,?_⟩
  have e:=r.length;simp only[aO]at e;omega
def Inv.list_inj (I:Inv X pins σ H s)(h:qC X.K H a xs)(h':qC X.K H a ys):xs=ys:=by
 obtain⟨i,r,⟨o,n,e,_,_,d⟩,_⟩:=I.list h;obtain⟨its',b,⟨o',N,E,_,_,d'⟩,_⟩:=I.list h';rw[e]at E;cases E;rw[d]at d';injection d' with D _
 have:i=its':=by simpa using congrArg Array.toList D
 subst this;exact r.inj b
def Inv.tupleN (I:Inv X pins σ H s)(h:qw X.K H a xs):∃ob,s.heap.get? a=some ob/\ob.dict=none:=by
 rcases h with h|⟨o,i,n,b,d,g,f,r⟩
 ·obtain⟨z,i,r,o,e,c,_⟩:=h.ok I.hok
  exact⟨o,e,c.2⟩
 ·exact⟨o,I.kIn a o b,d.2⟩
def Inv.tuple_inj (I:Inv X pins σ H s)(h:qw X.K H a xs)(h':qw X.K H a ys):xs=ys:=by
 obtain⟨i,r,⟨o,e,_,n,d⟩,_⟩:=I.tuple h;obtain⟨its',b,⟨o',E,_,N,d'⟩,_⟩:=I.tuple h';rw[e]at E;cases E;rw[d]at d';injection d' with D _
 have:i=its':=by simpa using congrArg Array.toList D
 subst this;exact r.inj b
end
noncomputable abbrev Cx.wish (X:Cx)(E:cb):Cx:={ X with xe:=E }
noncomputable abbrev Cx.nox (X:Cx):Cx:=X.wish λ_ _=>False
theorem Cx.Ok.wish {X:Cx}(ok:X.Ok)(E:cb):(X.wish E).Ok:=
 ⟨ok.mod,ok.kind,ok.glob,ok.blt,ok.above,ok.inj,ok.has,ok.cab,ok.hd,ok.frames,ok.stk,ok.exf,ok.bs,ok.bsz,ok.noex,ok.exfs,ok.funs,ok.frf⟩
def Cx.Ok.unwish {X:Cx}(ok:(X.wish E).Ok):X.Ok:=
 ⟨ok.mod,ok.kind,ok.glob,ok.blt,ok.above,ok.inj,ok.has,ok.cab,ok.hd,ok.frames,ok.stk,ok.exf,ok.bs,ok.bsz,ok.noex,ok.exfs,ok.funs,ok.frf⟩
section
variable {X:Cx}{σ:St}{H:Hp}
theorem Inv.wish (I:Inv X pins σ H s)(E:cb):Inv (X.wish E) pins σ H s:=⟨I.ok.wish E,I.os,I.bare,I.base,I.loc,I.cell,I.free,I.freeC,I.pin,I.hok,I.len⟩
theorem Inv.unwish (I:Inv (X.wish E) pins σ H s):Inv X pins σ H s:=⟨I.ok.unwish,I.os,I.bare,I.base,I.loc,I.cell,I.free,I.freeC,I.pin,I.hok,I.len⟩
theorem SP.unwish {D:Ends}{f:Flow}{s:Shared}(h:SP (X.wish E) pins D f s):SP X pins D f s:=by
 cases f with
 |next=>obtain⟨a,H,I,q⟩:=h;exact⟨a,H,I.unwish,q⟩|brk=>obtain⟨a,H,I,q⟩:=h;exact⟨a,H,I.unwish,q⟩|cont=>obtain⟨a,H,I,q⟩:=h;exact⟨a,H,I.unwish,q⟩|ret u=>obtain⟨v,a,H,I,r,q⟩:=h;exact⟨v,a,H,I.unwish,r,q⟩
theorem yS.nox {st:cq}{t:TS}(h:yS X.nox st t):yS X st t:=λpins s σ H D I hw=>
 wpAny_mono (h pins s σ H D (I.wish _) hw) (λ_ _ q=>q.unwish) λ_ _ z=>False.elim z
end
section
variable {X:Cx}{st:Stmt}{rest:cq}{t u:TS}{te:TE}
noncomputable def c3:TS:=λD σ H=>D.nx σ H
noncomputable def c4 (t u:TS):TS:=λD σ H=>t { D with nx:=u D } σ H
def AY:yS X [] c3:=λ_ _ σ H _ I h=>wpAny_execs_nil ⟨σ,H,I,h⟩
def Du (c:PS X st t)(b:yS X rest u):yS X (st::rest) (c4 t u):=by
 intro pins s σ H D I h;refine wpAny_execs_cons (zU (c pins s σ H { D with nx:=u D } I h) λf s1 q=>?_)
 cases f with
 |next=>
  obtain⟨a,d,i,q⟩:=q;exact b pins s1 a d D i q
 |ret v=>exact q|brk=>exact q|cont=>exact q
def Inv.quiet {σ:St}{H:Hp}(I:Inv X pins σ H s):interactive X.env=false:=by simp[interactive,I.ok.kind]
noncomputable def c5 (t:TE):TS:=λD σ H=>t σ H λ_ H1=>D.nx σ H1
def Ac (he:PE X e te)(a:swapsWith e none pos.line X.env=pure false:=by rfl):PS X (.Expr e pos) (c5 te):=by
 intro pins s σ H D I h;exact wpAny_Expr_any (zU (he pins s σ H _ I h) λv s1 ⟨x,H1,i,r,q⟩=>⟨σ,H1,i,q⟩) I.quiet a
noncomputable def c6 (t:TE):TS:=λD σ H=>t σ H D.rt
def c7 (he:PE X e te):PS X (.Return (some e) pos) (c6 te):=by
 intro pins s σ H D I h;exact wpAny_Return_some (zU (he pins s σ H _ I h) λv s1 ⟨x,H1,i,r,q⟩=>⟨x,σ,H1,i,r,q⟩)
noncomputable def c8 (c:TT)(t u:TS):TS:=λD σ H=>c σ H λb H1=>if b=true then t D σ H1 else u D σ H1
def c9 {c:Expr}{a b:cq}{T:TT}(e:PT X c T)(g:yS X a t)(f:yS X b u):PS X (.If c a b pos) (c8 T t u):=by
 intro pins s σ H D I h;refine wpAny_If (zU (e pins s σ H _ I h) λd s1 ⟨H1,i,q⟩=>?_);cases d with
 |true=>exact g pins s1 σ H1 D i q|false=>exact f pins s1 σ H1 D i q
end
abbrev TG:=V->St->Hp->(St->Hp->Prop)->Prop
abbrev Jm:=List V->St->Hp->(St->Hp->Prop)->Prop
def PG (X:Cx)(target:Expr)(t:TG):Prop:=
 ∀(pins:b6)(s:Shared)(σ:St)(H:Hp)(v:V)(u:Value)(Q:St->Hp->Prop),Inv X pins σ H s->RelV v u->t v σ H Q->
  wpAny (model X.prog X.w) X.A (assign target X.env u) (λ_ S=>∃a h,Inv X pins a h S/\Q a h) X.xe s
def GL (X:Cx)(T:cc)(t:Jm):Prop:=
 ∀(pins:b6)(s:Shared)(σ:St)(H:Hp)(vs:List V)(us:b4)(Q:St->Hp->Prop),Inv X pins σ H s->Vals vs us->t vs σ H Q->
  wpAny (model X.prog X.w) X.A (assignInOrder ((assignEach T X.env).map (·.2)) us) (λ_ S=>∃a h,Inv X pins a h S/\Q a h) X.xe s
abbrev Qx:=V->V->V->Hp->(Hp->Prop)->Prop
def Kl (X:Cx)(t:Qx):Prop:=
 ∀(pins:b6)(s:Shared)(σ:St)(H:Hp)(o i v:V)(a I u:Value)(Q:Hp->Prop),Inv X pins σ H s->RelV o a->RelV i I->RelV v u->t o i v H Q->
  wpAny (model X.prog X.w) X.A (setItem a I u) (λ_ S=>∃h,Inv X pins σ h S/\Q h) X.xe s
abbrev GQ:=V->V->Hp->VK->Prop
def Lj (X:Cx)(op:Operator)(t:GQ):Prop:=
 ∀(pins:b6)(s:Shared)(σ:St)(H:Hp)(x y:V)(v u:Value)(Q:VK),Inv X pins σ H s->RelV x v->RelV y u->t x y H Q->
  wpAny (model X.prog X.w) X.A (inplaceOp op v u) (EP X pins σ Q) X.xe s
section
variable {X:Cx}
noncomputable def Gg (i:Nat):TG:=λv σ H Q=>Q (σ.set i (some v)) H
def JQ (c:X.N.Nodup)(b:X.N[i]? =some x)(a:Loc X.env.scope x)(hf:X.fn x=true∨X.env.scope.names.lookup x=some .local:=by first|exact .inl rfl|exact .inr rfl|assumption):PG X (.Name x pos) (Gg i):=by
 intro pins s σ H v u Q I r h;exact wpAny_assign_Name (Oa I c b a r (λS d=>⟨_,H,d,h⟩) hf)
noncomputable def da:Jm:=λvs σ H Q=>vs=[]/\Q σ H
noncomputable def dc (t:TG)(u:Jm):Jm:=λvs σ H Q=>∃v r,vs=v::r/\t v σ H λa h=>u r a h Q
def Vl:GL X [] da:=by
 intro pins s σ H vs us Q I r h;obtain⟨e,h⟩:=h;subst e;cases r;exact assignInOrder_nil ⟨σ,H,I,h⟩
def JM {E:cc}{t:TG}{u:Jm}(f:PG X e t)(d:GL X E u)
  (c:(assignEach (e::E) X.env).map (·.2)=assign e X.env::(assignEach E X.env).map (·.2):=by rfl):GL X (e::E) (dc t u):=by
 intro pins s σ H vs us Q I r h;obtain⟨v,j,g,h⟩:=h;subst g;cases r with
 |cons r b=>
  rw[c];refine assignInOrder_cons (zU (f pins s σ H _ _ _ I r h) λ_ s1 ⟨a,H1,i,q⟩=>?_);exact d pins s1 a H1 _ _ Q i b q
noncomputable def jK (K:Frag)(n:Nat)(t:Jm):TG:=λv σ H Q=>∃a xs,v=.ref a/\qw K H a xs/\xs.length=n/\t xs σ H Q
def VQ {E:cc}{k:Nat}{t:Jm}(f:X.calm=true)(h:GL X E t)
  (hn:(assignEach E X.env).length=n:=by rfl)(c:(assignEach E X.env).findIdx? (·.1)=none:=by rfl):PG X (.Tuple E k pos) (jK X.K n t):=by
 intro pins s σ H v u Q I r hw;obtain⟨a,xs,g,q,l,hw⟩:=hw;subst g;cases r;obtain⟨i,d,ht,z⟩:=I.tuple q;refine assign_Tuple_tuple (I.ok.hd f) ht (by simp[hn,<- l,d.length]) c λh' x=>?_
 have j:Inv X pins σ H { s with heap:=h' }:=I.kept (t':=s.toks) λb o e=>x b o (aM (aH e)) e
 exact h pins _ σ H xs _ Q j (by simpa using d) hw
noncomputable def gg (to ti:TE)(t:Qx):TG:=λv σ H Q=>to σ H λo H1=>ti σ H1 λi a=>t o i v a λh=>Q σ h
def de {o i:Expr}{to ti:TE}{t:Qx}(f:PE X o to)(g:PE X i ti)(e:Kl X t)
  (j:∀v,assign (.Subscript o i pos) X.env v=(do
   let ov <- holding [v] (eval o X.env)
   let iv <- holding [v,ov] (eval i X.env)
   standAt pos
   holding [v,ov,iv] (setItem ov iv v)
   release [v,ov,iv] []):=by intro _;rfl):PG X (.Subscript o i pos) (gg to ti t):=by
 intro pins s σ H v u Q I r h;rw[j];refine cu (wpAny_holding (zU (f pins s σ H _ I h) λov s1 ⟨x,H1,n,b,d⟩=>?_));refine cu (wpAny_holding (zU (g pins s1 σ H1 _ n d) λiv s2 ⟨y,w,m,a,c⟩=>?_));refine cu (wpAny_standAt (cu (wpAny_holding (zU (e pins s2 σ w x y v ov iv u _ m b a r c) λ_ s3 ⟨p,l,q⟩=>?_))));exact wpAny_release ⟨σ,p,l,q⟩
noncomputable def Gy (t:TE)(g:TG):TS:=λD σ H=>t σ H λx H1=>g x σ H1 D.nx
def NU {t:TE}{g:TG}(he:PE X e t)(b:PG X tg g)(a:swapsWithSole [tg] e pos.line X.env=pure false:=by rfl)(hw:swappedStores [tg] e X.env=pure none:=by rfl)
  (c:(assignEach [tg] X.env).map (·.2)=[assign tg X.env]:=by rfl):PS X (.Assign [tg] e pos) (Gy t g):=by
 intro pins s σ H D I h;refine wpAny_Assign_stores (zU (he pins s σ H _ I h) λv s1 ⟨x,H1,i,r,Q⟩=>?_) a hw;rw[c];exact zU (b pins s1 σ H1 x v _ i r Q) λ_ s2 q=>q
def df {t:TE}{pos':Pos}(d:X.N.Nodup)(c:X.N[i]? =some x)(a:Loc X.env.scope x)(he:PE X e t)(b:swapsWith e (some (.Name x pos')) pos.line X.env=pure false:=by rfl)(hf:X.fn x=true∨X.env.scope.names.lookup x=some .local:=by first|exact .inl rfl|exact .inr rfl|assumption):
  PS X (.Assign [.Name x pos'] e pos) (Gy t (Gg i)):=by
 intro pins s σ H D I h;refine wpAny_Assign_Name (zU (he pins s σ H _ I h) λv s1 ⟨y,H1,g,r,q⟩=>?_) b;exact Oa g d c a r (λs2 f=>⟨_,H1,f,q⟩) hf
noncomputable def dh (to ti e:TE)(T:V->V->Hp->VK->Prop)(p:GQ)(t:Qx):TS:=λD σ H=>to σ H λo H1=>ti σ H1 λi d=>T o i d λx c=>e σ c λy b=>p x y b λz a=>t o i z a λh=>D.nx σ h
def M0 (X:Cx)(t:V->V->Hp->VK->Prop):Prop:=
 ∀(pins:b6)(s:Shared)(σ:St)(H:Hp)(o i:V)(v I:Value)(Q:VK),Inv X pins σ H s->RelV o v->RelV i I->t o i H Q->
  wpAny (model X.prog X.w) X.A (getItem v I) (EP X pins σ Q) X.xe s
def Al {o i:Expr}{to ti c:TE}{T:V->V->Hp->VK->Prop}{p:GQ}{t:Qx}{op:Operator}(y:PE X o to)(z:PE X i ti)(A:M0 X T)(he:PE X e c)(x:Lj X op p)(w:Kl X t)
  (B:∀a b new,augStore i a b new=(do holding [new,a,b] (setItem a b new);release [new,a,b] [];pure .next):=by intros;rfl):PS X (.AugAssign (.Subscript o i tpos) op e pos) (dh to ti c T p t):=by
 intro pins s σ H D I h;refine wpAny_AugAssign_SubscriptAny (zU (y pins s σ H _ I h) λa s1 ⟨x1,H1,M,d,u⟩=>?_) B;refine zU (z pins s1 σ H1 _ M u) λb s2 ⟨x2,Y,L,r,n⟩=>?_;refine zU (A pins s2 σ Y x1 x2 a b _ L d r n) λold s3 ⟨x3,U,K,j,m⟩=>?_;refine zU (he pins s3 σ U _ K m) λv s4 ⟨x4,S,J,g,l⟩=>?_;refine zU (x pins s4 σ S x3 x4 old v _ J j g l) λnew s5 ⟨x5,P,E,f,Q⟩=>?_;exact zU (w pins s5 σ P x1 x2 x5 a b new _ E d r f Q) λ_ Z ⟨N,C,q⟩=>⟨σ,N,C,q⟩
noncomputable def di (f:Int->Int->Int):GQ:=λx y H Q=>∃i j,x=.int i/\y=.int j/\Q (.int (f i j)) H
def dj:Lj X .Add (di λi j=>i+j):=by
 intro pins s σ H x y v u Q I a r h;obtain⟨i,j,E,e,q⟩:=h;subst E;subst e;obtain⟨t,rfl⟩:=a;obtain⟨t',rfl⟩:=r;exact iadd_int ⟨.int _,H,I.tok _,⟨_,rfl⟩,q⟩
def dk (c:TT)(t:TS):TS:=λD σ H=>∃W:Nat->St->Hp->Prop,(∃m,W m σ H)/\∀m σ H,W m σ H->
 c σ H λb H1=>if b=true then ∃N:St->Hp->Prop,(∀a h,N a h->∃m',m'<m/\W m' a h)/\t { D with nx:=N,ct:=N,bk:=D.nx } σ H1 else D.nx σ H1
def Dy {c:Expr}{t:TT}{T:TS}(p:PassesOwn (model X.prog X.w) X.A X.env X.xe)(z:PT X c t)(B:yS X body T):PS X (.While c body [] pos) (dk t T):=by
 intro pins s σ H D I h;obtain⟨W,⟨m0,y⟩,turn⟩:=h;refine wpAny_While (codeAny_whileLoop (λn S=>∃e u,Inv X pins e u S/\W n e u) ?_ m0 ⟨σ,H,I,y⟩)
 rintro n s1 ⟨d,H1,C,x⟩
 refine wpAny_passesOwn p (zU (z pins s1 d H1 _ C (turn n d H1 x)) λb s2 ⟨r,o,Q⟩=>?_);cases b with
 |true=>
  obtain⟨N,m,Q⟩:=Q;rw[ah rfl];refine wpAny_passesOwn p (zU (B pins s2 d r _ o Q) λf s3 q=>?_);cases f with
  |next=>
   obtain⟨a,g,l,j⟩:=q;obtain⟨m',hm,i⟩:=m a g j;exact⟨m',hm,a,g,l,i⟩
  |cont=>
   obtain⟨a,g,l,j⟩:=q;obtain⟨m',hm,i⟩:=m a g j;exact⟨m',hm,a,g,l,i⟩
  |brk=>exact q|ret v=>exact q
 |false=>
  rw[aj az];exact wpAny_execs_nil ⟨d,r,o,Q⟩
end
structure It where
 go:Nat->Hp->Prop
 yld:Nat->Hp->V->Hp->Prop
 stop:Nat->Hp->Prop
def kN (X:Cx)(pins:b6)(H:Hp)(b:Addr):Prop:=
 H b=none/\b≠X.env.locals/\b∉X.fs/\(b∈X.ex∨X.s0.heap.objs.size<=b)/\(∀x c,X.env.cells.lookup x=some c->c≠b)/\∀p∈X.pn++pins,p.1≠b
def Inv.fpOk {X:Cx}{σ:St}{H a:Hp}(I:Inv X pins σ H s)(h:s.heap.objs.size<=b)(hn:a b=none):kN X pins a b:=by
 refine⟨hn,bt (aJ I.lt h),I.nofs h,.inr (bw I.sz h),λx c e z=>?_,λp d z=>?_⟩
 ·obtain⟨v,q⟩:=I.cell x c e
  exact absurd (aJ q.lt (by rw[z];exact h)) (a5 _)
 ·exact absurd (aJ (aH (I.pin p d).1) (by rw[z];exact h)) (a5 _)
structure Turn (P:Program)(w:World)(K:Frag)(tg:Expr)(J:It)(fp:b5)(it:Addr)(tn:Nat->Heap->Prop):Prop where
 mem:it∈fp
 obj:∀i h,tn i h->∀b∈fp,∃o,h.get? b=some o/\∀v,o.data≠.cell v
 keep:∀i h h',tn i h->(∀b∈fp,∀o,h.get? b=some o->h'.get? b=some o)->tn i h'
 item:∀(X:Cx),X.prog=P->X.w=w->X.K=K->X.calm=true->∀(i:Nat)(pins:b6)(s:Shared)(σ:St)(H:Hp)(E:cb),Inv X pins σ H s->(∀b∈fp,kN X pins H b)->tn i s.heap->J.go i H->
  wpAny (model P w) X.A (pyNext (.ref it)) (λr s1=>∃u,r=some u/\
   wpAny (model P w) X.A (letOwnedTupleGo tg (.ref it) u) (λ_ s2=>∃x H',Inv X pins σ H' s2/\RelV x u/\J.yld i H x H'/\tn (i+1) s2.heap/\∀b∈fp,H' b=none) E s1) E s
 done:∀(X:Cx),X.prog=P->X.w=w->X.K=K->X.calm=true->∀(i:Nat)(pins:b6)(s:Shared)(σ:St)(H:Hp)(E:cb),Inv X pins σ H s->(∀b∈fp,kN X pins H b)->tn i s.heap->J.stop i H->
  wpAny (model P w) X.A (pyNext (.ref it)) (λr s1=>r=none/\Inv X pins σ H s1) E s
 self:∀(A:Around)(i:Nat)(s:Shared)(Q:cb)(E:cb),tn i s.heap->Q (.ref it) s->wpAny (model P w) A (pyIter (.ref it)) Q E s
abbrev TI:=St->Hp->(It->Hp->Prop)->Prop
inductive Lk (X:Cx)(pins:b6)(σ:St)(tg:Expr)(R:It->Hp->Prop)(itv:Value)(s2:Shared):Prop
 |mk (it:Addr) (fp:b5) (tn:Nat->Heap->Prop) (J:It) (H':Hp) (e:itv=.ref it) (I:Inv X pins σ H' s2) (T:Turn X.prog X.w X.K tg J fp it tn) (t0:tn 0 s2.heap) (f:(∀b∈fp,kN X pins H' b)) (q:R J H')
def PI (X:Cx)(t iter:Expr)(i:TI):Prop:=
 ∀(pins:b6)(s:Shared)(σ:St)(H:Hp)(R:It->Hp->Prop),Inv X pins σ H s->i σ H R->
  wpAny (model X.prog X.w) X.A (eval iter X.env) (λv s1=>wpAny (model X.prog X.w) X.A (pyIter v) (Lk X pins σ t R) X.xe s1) X.xe s
def Ub {A:Around}{o:Obj}{n:String}{vs:Array Value}{Q:Unit->Shared->Prop}(a:s.heap.get? it=some o)(c:o.cls=.type n)(hd:o.data=.fields vs)
  (hn:["enumerate","zip","dict_itemiterator","dict_reverseitemiterator","odict_iterator","itertools.zip_longest","itertools.pairwise"].contains n=false)(H:Q () s):wpAny M A (letOwnedTupleGo tg (.ref it) u) Q E s:=by
 unfold letOwnedTupleGo;cases tg<;>first
  |exact cw H
  |(cases u<;>first
    |exact cw H
    |(
      refine cu (wpAny_load a ?_);rw[c,hd];show wpAny M A (if (["enumerate","zip","dict_itemiterator","dict_reverseitemiterator","odict_iterator","itertools.zip_longest","itertools.pairwise"].contains n&&vs[0]?==some (rawInt _))=true then _ else _) Q E s;rw[aj (by intro h;rw[hn,Bool.false_and]at h;cases h)]
      exact cw H))
noncomputable def Lr (K:Frag)(a:Addr):It:=
 ⟨λi H=>∃xs x,qC K H a xs/\xs[i]? =some x,λi H x h=>h=H/\∀xs,qC K H a xs->xs[i]? =some x,λi H=>∃xs,qC K H a xs/\xs.length<=i⟩
noncomputable def Lu (K:Frag)(a:Addr):It:=
 ⟨λi H=>∃xs x,qw K H a xs/\xs[i]? =some x,λi H x h=>h=H/\∀xs,qw K H a xs->xs[i]? =some x,λi H=>∃xs,qw K H a xs/\xs.length<=i⟩
noncomputable def KN (lo:Int)(n:Nat):It:=⟨λi _=>i<n,λi H x h=>h=H/\x=.int (lo+i),λi _=>n<=i⟩
def Eb {K:Frag}(a it:Addr):Turn P w K tg (Lr K a) [it] it (λi h=>h.IsListIter it a i) where
 mem:=by simp
 obj:=λi h st b f=>by
  have e:b=it:=by simpa using f
  subst e;obtain⟨o,e,c,d⟩:=st;exact⟨o,e,λv z=>by rw[d]at z;cases z⟩
 keep:=λi h h' st k=>st.at λo e=>k it (by simp) o e
 item:=by
  intro X m hw n A i pins s σ H E I hf st l;subst m hw n;obtain⟨xs,x,q,j⟩:=l;obtain⟨g,r,p,D⟩:=I.list q;obtain⟨u,L,C⟩:=r.get j;obtain⟨f0,f1,f2,y,f4,t⟩:=hf it (by simp)
  refine wpAny_pyNext_list_item st p.isList (x:=u) (by simpa using L) λh' S B=>?_
  have N:Inv X pins σ H { s with heap:=h' }:=I.turned (t':=s.toks) (λb o f e=>(B.2 b f).trans e) f0 f1 y f4 t
  obtain⟨o,e,c,d⟩:=id S;exact⟨u,rfl,Ub (s:={ s with heap:=h' }) e c d (by decide) ⟨x,H,N,C,⟨rfl,λY J=>by rw[I.list_inj J q];exact j⟩,S,λb f=>(hf b f).1⟩⟩
 done:=by
  intro X m hw n A i pins s σ H E I hf st l;subst m hw n;obtain⟨xs,q,j⟩:=l;obtain⟨g,r,p,D⟩:=I.list q;obtain⟨f0,f1,f2,y,f4,t⟩:=hf it (by simp)
  have Q:=r.length;exact wpAny_pyNext_list_end (I.ok.hd A) st p.isList (by simp;omega) λh' M=>⟨rfl,I.turned (t':=s.toks) (λb o f e=>M b o f e) f0 f1 y f4 t⟩
 self:=λ_ _ _ _ _ st h=>wpAny_pyIter_listiter st h
def Fs {K:Frag}(a it:Addr):Turn P w K tg (Lu K a) [it] it (λi h=>h.IsTupleIter it a i) where
 mem:=by simp
 obj:=λi h st b g=>by
  have e:b=it:=by simpa using g
  subst e;obtain⟨o,e,c,d⟩:=st;exact⟨o,e,λv z=>by rw[d]at z;cases z⟩
 keep:=λi h h' st k=>st.at λo e=>k it (by simp) o e
 item:=by
  intro X m hw n A i pins s σ H E I hf st l;subst m hw n;obtain⟨xs,x,q,j⟩:=l;obtain⟨f,r,p,D⟩:=I.tuple q;obtain⟨u,L,C⟩:=r.get j;obtain⟨f0,f1,f2,y,f4,t⟩:=hf it (by simp)
  refine wpAny_pyNext_tuple_item st (show s.heap.IsTuple a f.toArray from p) (x:=u) (by simpa using L) λh' S B=>?_
  have N:Inv X pins σ H { s with heap:=h' }:=I.turned (t':=s.toks) (λb o g e=>(B.2 b g).trans e) f0 f1 y f4 t
  obtain⟨o,e,c,d⟩:=id S;exact⟨u,rfl,Ub (s:={ s with heap:=h' }) e c d (by decide) ⟨x,H,N,C,⟨rfl,λY J=>by rw[I.tuple_inj J q];exact j⟩,S,λb g=>(hf b g).1⟩⟩
 done:=by
  intro X m hw n A i pins s σ H E I hf st l;subst m hw n;obtain⟨xs,q,j⟩:=l;obtain⟨f,r,p,D⟩:=I.tuple q;obtain⟨f0,f1,f2,y,f4,t⟩:=hf it (by simp)
  have Q:=r.length;exact wpAny_pyNext_tuple_end (I.ok.hd A) st (show s.heap.IsTuple a f.toArray from p) (by simp;omega) λh' M=>⟨rfl,I.turned (t':=s.toks) (λb o g e=>M b o g e) f0 f1 y f4 t⟩
 self:=λ_ _ _ _ _ st h=>wpAny_pyIter_tupleiter st h
def FJ {K:Frag}(it:Addr)(lo:Int)(n:Nat):Turn P w K tg (KN lo n) [it] it (λi h=>IsRangeIter h it (lo+(i:Nat) * 1) ((n:Int)-(i:Nat)) 1) where
 mem:=by simp
 obj:=λi h st b a=>by
  have e:b=it:=by simpa using a
  subst e;exact⟨_,st,λv z=>by
   have Z:Data.fields _=Data.cell v:=z;cases Z⟩
 keep:=λi h h' st k=>k it (by simp) _ st
 item:=by
  intro X d hw f c i pins s σ H E I hf st g;subst d hw f;obtain⟨f0,f1,f2,l,f4,j⟩:=hf it (by simp)
  have W:=Walks.range (prog:=X.prog) (w:=X.w) (I.ok.hd c) it lo 1 n;refine W.item i s _ _ g st λv h' tk p S m=>?_;obtain⟨t,rfl⟩:=p;have r:Inv X pins σ H { s with heap:=h',toks:=tk }:=I.turned (λb o a e=>m b o (by simpa using a) e) f0 f1 l f4 j
  refine⟨_,rfl,Ub (s:={ s with heap:=h',toks:=tk }) (n := "range_iterator") S rfl rfl (by decide) ⟨.int (lo+i),H,r,⟨t,?_⟩,⟨rfl,rfl⟩,S,λb a=>(hf b a).1⟩⟩
  rw[Int.mul_one]
 done:=by
  intro X d hw f c i pins s σ H E I hf st g;subst d hw f;obtain⟨f0,f1,f2,l,f4,j⟩:=hf it (by simp)
  exact wpAny_pyNext_range_end (I.ok.hd c) st (by have:n<=i:=g;omega) λh' q=>⟨rfl,I.turned (t':=s.toks) (λb o a e=>q b o a e) f0 f1 l f4 j⟩
 self:=λ_ _ _ _ _ st h=>wpAny_pyIter_rangeiter st h
section
variable {X:Cx}
def Oh {σ:St}{H:Hp}{R:It->Hp->Prop}{lo h:Int}{t u v:Tok}{tk:Nat}(I:Inv X pins σ H s)(g:-(2 ^ 62)<=lo)(f:lo<2 ^ 62)(d:-(2 ^ 62)<=h)(c:h<2 ^ 62)
  (q:R (KN lo (h-lo).toNat) H):wpAny (model X.prog X.w) X.A (pyIter (.ref s.heap.objs.size)) (Lk X pins σ tg R) E { s with heap:=s.heap.push { cls:=.type "range",data:=.fields #[.int lo t,.int h u,.int 1 v] },toks:=tk }:=by
 refine wpAny_pyIter_range (IsRange.new ..) (small_one g f d c) ?_;have i:Inv X pins σ H { s with heap:=s.heap.push { cls:=.type "range",data:=.fields #[.int lo t,.int h u,.int 1 v] },toks:=tk }:=I.kept λb o e=>ae _ e
 refine⟨(s.heap.push { cls:=.type "range",data:=.fields #[.int lo t,.int h u,.int 1 v] }).objs.size,[(s.heap.push { cls:=.type "range",data:=.fields #[.int lo t,.int h u,.int 1 v] }).objs.size],_,_,H,rfl,
  i.kept (t':=tk) λb o e=>ae _ e,FJ _ lo (h-lo).toNat,?_,λb a=>?_,q⟩
 ·have l:lo+((0:Nat):Int) * 1=lo:=by simp
  have j:(((h-lo).toNat:Nat):Int)-((0:Nat):Int)=Builtin.Range.rangeSize lo h 1:=by rw[rangeSize_one];split<;>omega
  show IsRangeIter _ _ (lo+((0:Nat):Int) * 1) ((((h-lo).toNat:Nat):Int)-((0:Nat):Int)) 1;rw[l,j];exact au _ rfl
 ·have e:b=(s.heap.push { cls:=.type "range",data:=.fields #[.int lo t,.int h u,.int 1 v] }).objs.size:=by simpa using a
  subst e;exact i.fpOk (ao _) (i.hok.fresh (ao _))
def dm (t:TA):TI:=λσ H R=>t σ H λvs H1=>∃j:Int,vs=[.int j]/\-(2 ^ 62)<=j/\j<2 ^ 62/\R (KN 0 j.toNat) H1
def dq (t:TA):TI:=λσ H R=>t σ H λvs H1=>∃i j:Int,vs=[.int i,.int j]/\(-(2 ^ 62)<=i/\i<2 ^ 62/\-(2 ^ 62)<=j/\j<2 ^ 62)/\R (KN i (j-i).toNat) H1
def De {a:Expr}{T:TA}(g:Gl X "range")(hm:X.mg "range"=none)(i:PA X [a] T)(f:starEach [a] X.env=[(false,eval a X.env)]:=by rfl):PI X tg (.Call (.Name "range" p) [a] [] pos) (dm T):=by
 intro pins s σ H R I h;refine Call_ (Zf I g hm boot_range (PyProof.Rows.callWith_type1 (zU (i pos pins s σ H _ I h) λus s1 ⟨vs,H1,l,c,Q⟩=>?_) f rfl));obtain⟨j,e,Q,d,q⟩:=Q;subst e;cases c with
 |cons r b=>
  cases b;obtain⟨t,rfl⟩:=r;exact call_range_1 (Oh l (by omega) (by omega) Q d (by simpa using q))
def E6 {a b:Expr}{T:TA}(u:Gl X "range")(hm:X.mg "range"=none)(v:PA X [a,b] T)(o:starEach [a,b] X.env=[(false,eval a X.env),(false,eval b X.env)]:=by rfl)(c:starEach [b] X.env=[(false,eval b X.env)]:=by rfl):
  PI X tg (.Call (.Name "range" p) [a,b] [] pos) (dq T):=by
 intro pins s σ H R I h;refine Call_ (Zf I u hm boot_range (PyProof.Rows.callWith_type1 (zU (v pos pins s σ H _ I h) λus s1 ⟨vs,H1,w,f,Q⟩=>?_) (by rw[o,c]) (by rw[c];rfl)))
 obtain⟨i,j,e,⟨Q,n,m,l⟩,q⟩:=Q;subst e;cases f with
 |cons r d=>
  cases d with
  |cons g d=>
   cases d;obtain⟨t,rfl⟩:=r;obtain⟨t',rfl⟩:=g;exact call_range_2 (Oh w Q n m l q)
def dr (w:TI)(g:TG)(t:TS):TS:=λD σ H=>w σ H λJ H1=>∃W:Nat->Nat->St->Hp->Prop,(∃m,W 0 m σ H1)/\∀i m σ H,W i m σ H->
 (J.stop i H/\D.nx σ H)∨(J.go i H/\∃N:St->Hp->Prop,(∀a h,N a h->∃m',m'<m/\W (i+1) m' a h)/\∀x h,J.yld i H x h->g x σ h λb c=>t { D with nx:=N,ct:=N,bk:=D.nx } b c)
noncomputable def Y8 (fp:b5)(h:Heap):b6:=fp.filterMap λb=>(h.get? b).map λo=>(b,o)
def Wj {o:Obj}(H:b∈fp)(e:h.get? b=some o):(b,o)∈Y8 fp h:=List.mem_filterMap.mpr ⟨b,H,by rw[e];rfl⟩
def Ey {p:Addr×Obj}(H:p∈Y8 fp h):p.1∈fp/\h.get? p.1=some p.2:=by
 obtain⟨b,a,e⟩:=List.mem_filterMap.mp H;cases q:h.get? b with
 |none=>rw[q]at e;cases e|some o=>
  rw[q]at e;have E:(b,o)=p:=aC e;subst E;exact⟨a,q⟩
def Inv.pinned {σ:St}{H:Hp}(I:Inv X pins σ H s)(hf:∀b∈fp,kN X pins H b)(c:∀b∈fp,∃o,s.heap.get? b=some o/\∀v,o.data≠.cell v):Inv X (pins++Y8 fp s.heap) σ H s:=
 I.pins_of λp a=>(List.mem_append.mp a).elim (λz=>I.pin p (aK _ z)) λz=>by
  obtain⟨h,e⟩:=Ey z;obtain⟨f0,f1,f2,_⟩:=hf p.1 h;obtain⟨o,E,d⟩:=c p.1 h;rw[e]at E;cases E;exact⟨e,f0,f1,f2,d⟩
def Inv.unpinned {P:b6}{σ:St}{H:Hp}(I:Inv X (pins++P) σ H s):Inv X pins σ H s:=I.pins_of λp h=>I.pin p (aK _ (aY _ h))
def dt {iter:Expr}{U:TI}{g:TG}{Z:TS}(z:PassesOwn (model X.prog X.w) X.A X.env X.xe)(hc:X.calm=true)(hi:PI X tg iter U)(hg:PG X tg g)(l:yS X body Z)
  (hs:∀x,foldedSetIterable iter X.env x=pure x:=by intro _;rfl):PS X (.For tg iter body [] pos) (dr U g Z):=by
 intro pins s σ H D I h;refine wpAny_For (zU (hi pins s σ H _ I h) λv s1 h1=>zU h1 λitv s2 h2=>?_) hs;obtain⟨it,fp,Y,J,H2,e,I2,T,gh,f2,W,⟨m0,w0⟩,turn⟩:=h2;subst e;have S:∀{H':Hp},(∀b∈fp,H' b=none)->∀b∈fp,kN X pins H' b:=λhn b l=>⟨hn b l,(f2 b l).2⟩;refine codeAny_forLoop_any (λn s'=>∃i j H',Inv X pins j H' s'/\Y i s'.heap/\(∀b∈fp,H' b=none)/\W i n j H') ?_ m0 ⟨0,σ,H2,I2,gh,λb l=>(f2 b l).1,w0⟩
 rintro n s3 ⟨i,c,C,I3,gU,B,w3⟩
 rcases turn i n c C w3 with ⟨stop,qn⟩|⟨go,N,hN,step⟩
 ·refine wpAny_passesOwn z (zU (T.done X rfl rfl rfl hc i pins s3 c C X.xe I3 (S B) gU stop) λr s4 ⟨L,I4⟩=>?_)
  subst L;exact wpAny_execs_nil ⟨c,C,I4,qn⟩
 ·refine wpAny_passesOwn z (zU (T.item X rfl rfl rfl hc i pins s3 c C X.xe I3 (S B) gU go) λr s4 ⟨u,L,h4⟩=>?_)
  subst L;refine wpAny_passesOwn z (zU h4 λ_ s5 ⟨x,H5,I5,r5,y5,t,M⟩=>?_);have P:=I5.pinned (S M) (T.obj _ _ t);refine wpAny_passesOwn z (zU (hg _ s5 c H5 x u _ P r5 (step x H5 y5)) λ_ s6 ⟨E,H6,I6,q6⟩=>?_);refine wpAny_passesOwn z (zU (l _ s6 E H6 _ I6 q6) λf K Q=>?_);have again:∀{a:St}{q:Hp},Inv X (pins++Y8 fp s5.heap) a q K->N a q->∃m,m<n/\∃i j H',Inv X pins j H' K/\Y i K.heap/\(∀b∈fp,H' b=none)/\W i m j H':=λ {a q} p y=>by
   obtain⟨m',hm,w7⟩:=hN a q y;refine⟨m',hm,i+1,a,q,p.unpinned,T.keep _ _ _ t λb l o e=>(p.pin (b,o) (aK _ (aK _ (Wj l e)))).1,λb l=>?_,w7⟩;obtain⟨o,e,d⟩:=T.obj _ _ t b l;exact(p.pin (b,o) (aK _ (aK _ (Wj l e)))).2.1
  cases f with
  |next=>obtain⟨a,q,p,y⟩:=Q;exact again p y|cont=>obtain⟨a,q,p,y⟩:=Q;exact again p y|brk=>obtain⟨a,q,p,Q⟩:=Q;exact⟨a,q,p.unpinned,Q⟩|ret v=>obtain⟨x7,a,q,p,r7,Q⟩:=Q;exact⟨x7,a,q,p.unpinned,r7,Q⟩
end
abbrev R2:=V->V->Hp->VK->Prop
def qG (X:Cx)(f:Value->Value->Sem Value)(r:R2):Prop:=
 ∀(pins:b6)(s:Shared)(σ:St)(H:Hp)(x y:V)(v u:Value)(Q:VK),Inv X pins σ H s->RelV x v->RelV y u->r x y H Q->
  wpAny (model X.prog X.w) X.A (f v u) (EP X pins σ Q) X.xe s
def jN (X:Cx)(f:Value)(r:List V->Hp->VK->Prop):Prop:=
 ∀(pins:b6)(s:Shared)(σ:St)(H:Hp)(xs:List V)(us:b4)(Q:VK),Inv X pins σ H s->Vals xs us->r xs H Q->
  wpAny (model X.prog X.w) X.A (call f us) (EP X pins σ Q) X.xe s
noncomputable def KI (r:R2)(T t:TE):TE:=λσ H Q=>T σ H λx H1=>t σ H1 λy h=>r x y h Q
noncomputable def du (r:V->Hp->VK->Prop)(t:TE):TE:=λσ H Q=>t σ H λx H1=>r x H1 Q
noncomputable def rI (C:Int->Int->Prop)(g:Int->Int->V):R2:=λx y H Q=>∃i j,x=.int i/\y=.int j/\C i j/\Q (g i j) H
noncomputable def gm (g:Int->Int->V):R2:=λx y H Q=>∃i j,x=.int i/\y=.int j/\Q (g i j) H
section
variable {X:Cx}{a b:Expr}{ta tb:TE}
def UA (j:PE X a ta)(i:PE X b tb){σ:St}{H:Hp}{R:V->V->Hp->Prop}(I:Inv X pins σ H s)
  (h:ta σ H λx H1=>tb σ H1 λy c=>R x y c)
  (hf:∀v u s2 x y c,Inv X pins σ c s2->RelV x v->RelV y u->R x y c->wpAny (model X.prog X.w) X.A (f v u) Q X.xe s2):
  wpAny (model X.prog X.w) X.A (eval a X.env) (λv d=>wpAny (model X.prog X.w) X.A (eval b X.env) (λu S=>wpAny (model X.prog X.w) X.A (f v u) Q X.xe S) X.xe d) X.xe s:=by
 refine zU (j pins s σ H _ I h) λv s1 ⟨x,H1,m,e,g⟩=>?_;refine zU (i pins s1 σ H1 _ m g) λu s2 ⟨y,c,l,r,q⟩=>?_;exact hf v u s2 x y c l e r q
def dv {op:Operator}{r:R2}(o:qG X (binaryOp op) r)(f:PE X a ta)(e:PE X b tb):PE X (.BinOp a op b pos) (KI r ta tb):=by
 intro pins s σ H Q I h;exact wpAny_BinOp (UA f e I h λv u s2 x y g i d c q=>o pins s2 σ g x y v u Q i d c q)
def GH {C:Int->Int->Prop}{g:Int->Int->Int}
  (rule:∀(i j:Int)(t u:Tok)(s:Shared)(Q:cb)(E:cb),C i j->Q (.int (g i j) s.toks) { s with toks:=s.toks+1 }->wpAny (model X.prog X.w) X.A (f (.int i t) (.int j u)) Q E s):
  qG X f (rI C λi j=>.int (g i j)):=by
 intro pins s σ H x y v u Q I a r h;obtain⟨i,j,rfl,rfl,c,q⟩:=h;obtain⟨t,rfl⟩:=a;obtain⟨t',rfl⟩:=r;exact rule i j t t' s _ _ c ⟨.int (g i j),H,I.tok _,⟨_,rfl⟩,q⟩
def Uw {g:Int->Int->Int}
  (rule:∀(i j:Int)(t u:Tok)(s:Shared)(Q:cb)(E:cb),Q (.int (g i j) s.toks) { s with toks:=s.toks+1 }->wpAny (model X.prog X.w) X.A (f (.int i t) (.int j u)) Q E s):
  qG X f (gm λi j=>.int (g i j)):=by
 intro pins s σ H x y v u Q I a r h;obtain⟨i,j,rfl,rfl,q⟩:=h;obtain⟨t,rfl⟩:=a;obtain⟨t',rfl⟩:=r;exact rule i j t t' s _ _ ⟨.int (g i j),H,I.tok _,⟨_,rfl⟩,q⟩
def Gp {g:Int->Int->Bool}
  (rule:∀(i j:Int)(t u:Tok)(s:Shared)(Q:cb)(E:cb),Q (.bool (g i j)) s->wpAny (model X.prog X.w) X.A (f (.int i t) (.int j u)) Q E s):
  qG X f (gm λi j=>.bl (g i j)):=by
 intro pins s σ H x y v u Q I a r h;obtain⟨i,j,rfl,rfl,q⟩:=h;obtain⟨t,rfl⟩:=a;obtain⟨t',rfl⟩:=r;exact rule i j t t' s _ _ ⟨.bl (g i j),H,I,rfl,q⟩
def MZ (i j:Int):Prop:=0<=j/\j<=1000000/\i.natAbs<2 ^ 64
def Kq (i j:Int):Prop:=(-(2 ^ 64)<i/\i<2 ^ 64)∨(-(2 ^ 64)<j/\j<2 ^ 64)
def Kq.ok {i j:Int}(h:Kq i j):IntMulOk i j:=by
 rcases h with ⟨a,H⟩|⟨a,H⟩
 ·exact .of_left (intBits_le_64 a H)
 ·exact .of_right (intBits_le_64 a H)
def dw:qG X (binaryOp .Add) (gm λi j=>.int (i+j)):=Uw λ_ _ _ _ _ _ _ q=>add_int q
def dy:qG X (binaryOp .Sub) (gm λi j=>.int (i-j)):=Uw λ_ _ _ _ _ _ _ q=>sub_int q
def dz:qG X (binaryOp .Mult) (rI Kq λi j=>.int (i * j)):=GH λ_ _ _ _ _ _ _ h q=>mul_int q h.ok
def dA:qG X (binaryOp .Mod) (rI (λ_ j=>0<j) λi j=>.int (i%j)):=GH λi j _ _ _ _ _ h q=>by
 have H:(0:Int)<j:=h;exact mod_int' (by omega) (by rw[Int.fmod_eq_emod_of_nonneg i (by omega)];exact q)
def dB:qG X (binaryOp .Pow) (rI MZ λi j=>.int (i ^ j.toNat)):=GH λ_ _ _ _ _ _ _ h q=>pow_int_small h.1 h.2.1 h.2.2 q
def dC:qG X (binaryOp .BitXor) (gm λi j=>.int (Builtin.bitXor i j)):=Uw λ_ _ _ _ _ _ _ q=>xor_int q
variable {c:Expr}{tc:TE}
def N5 {σ:St}{H:Hp}{Q:VK}{k K:Bool}(I:Inv X pins σ H s)(q:Q (.bl k) H)(e:k=K):EP X pins σ Q (.bool K) s:=by
 subst e;exact⟨.bl k,H,I,rfl,q⟩
def Mn:qG X (compareOp .Lt) (gm λi j=>.bl (decide (i<j))):=Gp λ_ _ _ _ _ _ _ q=>lt_int q
def dD:qG X (compareOp .LtE) (gm λi j=>.bl (decide (i<=j))):=Gp λ_ _ _ _ _ _ _ q=>le_int q
def dE:qG X (compareOp .Gt) (gm λi j=>.bl (decide (j<i))):=Gp λ_ _ _ _ _ _ _ q=>gt_int q
def dF:qG X (compareOp .GtE) (gm λi j=>.bl (decide (j<=i))):=Gp λ_ _ _ _ _ _ _ q=>ge_int q
def dG:qG X (compareOp .Is) (λx y H Q=>y=.non/\Q (.bl (decide (x=.non))) H):=by
 intro pins s σ H x y v u Q I r a h;obtain⟨rfl,q⟩:=h;cases a;refine is_none_gen (N5 I q ?_);cases x<;>first
  |(cases r;rfl)
  |(obtain⟨t,rfl⟩:=r;rfl)
def Az:qG X (compareOp .IsNot) (λx y H Q=>y=.non/\Q (.bl (!decide (x=.non))) H):=by
 intro pins s σ H x y v u Q I r a h;obtain⟨rfl,q⟩:=h;cases a;refine isnot_none_gen (N5 I q ?_);cases x<;>first
  |(cases r;rfl)
  |(obtain⟨t,rfl⟩:=r;rfl)
def qG.or {r c:R2}(h:qG X f r)(h':qG X f c):qG X f (λx y H Q=>r x y H Q∨c x y H Q):=by
 intro pins s σ H x y v u Q I b a q;rcases q with q|q
 ·exact h pins s σ H x y v u Q I b a q
 ·exact h' pins s σ H x y v u Q I b a q
def BR {r:R2}(o:qG X (compareOp op) r)(f:PE X a ta)(e:PE X b tb)(hm:behindInMarks op b=false):PE X (.Compare a [op] [b] pos) (KI r ta tb):=by
 intro pins s σ H Q I h;exact wpAny_Compare1 (UA f e I h λv u s2 x y g i d c q=>o pins s2 σ g x y v u Q i d c q) hm
noncomputable def Md (t:TE):TT:=λσ H Q=>t σ H λx h=>∃k,x=.bl k/\Q k h
def AK {r:R2}(o:qG X (compareOp op) r)(m:PE X a ta)(l:PE X b tb)(hm:behindInMarks op b=false):PT X (.Compare a [op] [b] pos) (Md (KI r ta tb)):=by
 intro pins s σ H Q I h;refine wpAny_isTrue_Compare1 (zU (m pins s σ H _ I h) λv s1 ⟨x,H1,t,g,j⟩=>zU (l pins s1 σ H1 _ t j) λu s2 ⟨y,A,p,f,i⟩=>
  zU (o pins s2 σ A x y v u _ p g f i) λc s3 ⟨z,w,n,d,k,e,q⟩=>?_) hm
 subst e;cases d;exact wpAny_truthy_bool ⟨w,n,q⟩
noncomputable def VB (r b:R2)(a T t:TE):TE:=λσ H Q=>a σ H λx H1=>T σ H1 λy d=>r x y d λz h=>∃k,z=.bl k/\
 (if k=true then t σ h λw c=>b y w c Q else Q (.bl false) h)
def CT {o:CmpOp}{r i:R2}(C:qG X (compareOp op) r)(f:qG X (compareOp o) i)(J:PE X a ta)(E:PE X b tb)(D:PE X c tc)
  (hm:lastMarks [op,o] [b,c]=false:=by with_unfolding_all rfl):PE X (.Compare a [op,o] [b,c] pos) (VB r i ta tb tc):=by
 intro pins s σ H Q I h;refine Compare_chain (zU (J pins s σ H _ I h) λv s1 ⟨x,H1,M,p,B⟩=>chain_link (zU (E pins s1 σ H1 _ M B) λu s2 ⟨y,P,L,g,A⟩=>
  zU (C pins s2 σ P x y v u _ L p g A) λd s3 ⟨z,l,j,n,k,e,q⟩=>?_)) hm
 subst e;cases n;refine wpAny_truthy_bool ?_;cases k with
 |false=>exact ite_ff ⟨.bl false,l,j,rfl,q⟩|true=>exact ite_tt (chain_last (zU (D pins s3 σ l _ j q) λw s4 ⟨Z,N,K,m,t⟩=>f pins s4 σ N y Z u w Q K g m t))
def DJ {o:CmpOp}{r i:R2}(J:qG X (compareOp op) r)(f:qG X (compareOp o) i)(M:PE X a ta)(L:PE X b tb)(K:PE X c tc)
  (hm:lastMarks [op,o] [b,c]=false:=by with_unfolding_all rfl):PT X (.Compare a [op,o] [b,c] pos) (Md (VB r i ta tb tc)):=by
 intro pins s σ H Q I h;refine isTrue_chain (zU (M pins s σ H _ I h) λv s1 ⟨x,H1,Y,t,D⟩=>test_link (zU (L pins s1 σ H1 _ Y D) λu s2 ⟨y,H2,U,g,C⟩=>
  zU (J pins s2 σ H2 x y v u _ U t g C) λd s3 ⟨z,l,j,p,k,e,q⟩=>?_)) hm
 subst e;cases p;refine wpAny_truthy_bool ?_;cases k with
 |false=>
  obtain⟨k',P,E⟩:=q;cases P;exact ite_ff ⟨l,j,E⟩
 |true=>
  refine ite_tt (test_last (zU (K pins s3 σ l _ j q) λw s4 ⟨Z,H4,T,n,B⟩=>zU (f pins s4 σ H4 y Z u w _ T g n B) λd' s5 ⟨z2,H5,S,m,k2,N,A⟩=>?_));subst N;cases m;exact wpAny_truthy_bool ⟨H5,S,A⟩
def J0:(sizeLine:Nat)<2 ^ 63:=by rw[sizeLine_eq];decide
def vals1 {x:V}(r:Vals [x] us):∃u,us=[u]/\RelV x u:=by
 cases r with
 |cons b a=>cases a;exact⟨_,rfl,b⟩
def vals2 {x y:V}(r:Vals [x,y] us):∃u w,us=[u,w]/\RelV x u/\RelV y w:=by
 cases r with
 |cons d c=>
  cases c with
  |cons b a=>cases a;exact⟨_,_,rfl,d,b⟩
def Ba:jN X (.builtin "abs") (λxs H Q=>∃i,xs=[.int i]/\Q (.int (if i<0 then -i else i)) H):=by
 intro pins s σ H xs us Q I r h;obtain⟨i,rfl,q⟩:=h;obtain⟨u,rfl,t,rfl⟩:=vals1 r;exact call_abs_int λu tk=>⟨.int (if i<0 then -i else i),H,I.tok _,⟨_,rfl⟩,q⟩
def EN (c:X.calm=true):jN X (.builtin "max") (λxs H Q=>∃i j,xs=[.int i,.int j]/\Q (.int (if j > i then j else i)) H):=by
 intro pins s σ H xs us Q I r h;obtain⟨i,j,rfl,q⟩:=h;obtain⟨u,w,rfl,⟨t,rfl⟩,⟨t',rfl⟩⟩:=vals2 r;refine max_two_ints (I.ok.hd c) λh' tk k=>⟨_,H,I.kept k,?_,q⟩
 by_cases a:j > i
 ·rw[ah a,ah a];exact⟨_,rfl⟩
 ·rw[aj a,aj a];exact⟨_,rfl⟩
def Ek (c:X.calm=true):jN X (.builtin "min") (λxs H Q=>∃i j,xs=[.int i,.int j]/\Q (.int (if j<i then j else i)) H):=by
 intro pins s σ H xs us Q I r h;obtain⟨i,j,rfl,q⟩:=h;obtain⟨u,w,rfl,⟨t,rfl⟩,⟨t',rfl⟩⟩:=vals2 r;refine min_two_ints (I.ok.hd c) λh' tk k=>⟨_,H,I.kept k,?_,q⟩
 by_cases a:j<i
 ·rw[ah a,ah a];exact⟨_,rfl⟩
 ·rw[aj a,aj a];exact⟨_,rfl⟩
def EA:jN X (.type "int") (λxs H Q=>(∃i,xs=[.int i]/\Q (.int i) H)∨∃k,xs=[.bl k]/\Q (.int (if k then 1 else 0)) H):=by
 intro pins s σ H xs us Q I r h;rcases h with ⟨i,rfl,q⟩|⟨k,rfl,q⟩
 ·obtain⟨u,rfl,t,rfl⟩:=vals1 r
  exact call_int_int ⟨.int i,H,I,⟨_,rfl⟩,q⟩
 ·obtain⟨u,rfl,a⟩:=vals1 r
  cases a;exact call_int_bool ⟨.int (if k then 1 else 0),H,I.tok _,⟨_,rfl⟩,q⟩
end
structure Ux (h:Heap)(x dx C:Addr)(mA:cg):Prop where
 obj:h.get? x=some (instObj C dx)
 ns:h.Ns1 dx mA
 ne:dx≠x
def Dm {D:Addr}{m:cg}(n:h.Ns1 D m):∃d,h.get? D=some d/\∀name,lookIn name d=some (m name):=by
 obtain⟨o,E,p,c,hd,f,_,hm⟩:=n;refine⟨o,c,λname=>?_⟩;have e:=hm name;unfold nsFind findBy at e;rw[<- Array.find?_toList]at e;unfold lookIn;rw[hd];dsimp only
 split
 ·rename_i y q
  rw[q]at e;exact congrArg some e
 ·rename_i q
  rw[q]at e;have a:E.toList.any (·.refKey)=false:=by
   rw[List.any_eq_false];intro y b;obtain⟨z,t,H⟩:=f y (Array.mem_toList_iff.mp b);simp[DictEntry.refKey,H]
  have A:¬E.toList.any (·.refKey)=true:=by rw[a];exact az
  rw[aj A];exact congrArg some e
def Ux.look {x d C:Addr}{m:cg}(I:Ux h x d C m):∃o,PySem.W.InstAt h x (instObj C d) C (some o)/\∀name,lookIn name o=some (m name):=
 let ⟨o,H,l⟩:=Dm I.ns
 ⟨o,⟨I.obj,rfl,rfl,H⟩,l⟩
def gL.some_of {v:V}{o:b8}(r:gL (some v) o):∃u,o=some u/\RelV v u:=by
 cases o with
 |none=>exact(show False from r).elim|some u=>exact⟨u,rfl,r⟩
section
variable {H:Hp}{C dx:Addr}{fs:List (Str×V)}
def BH (hok:jE P w H h)(e:H a=some (.ins C dx fs)):∃m,Ux h a dx C m/\(∀f,gL (fs.lookup f) (m f))/\PySem.Within m (fs.map (·.1))/\fs.length<=1000/\H dx=some (.own a):=by
 obtain⟨d,z,ne,ob,m,n,r,q⟩:=(show jI P w H h a (.ins C dx fs) from hok a _ e)
 exact⟨m,⟨ob,n,ne⟩,r,q,z,d⟩
end
structure UO (K:Frag)(C:Addr):Prop where
 pg:plainGet K C Str.empty=true
 hd:PySem.W.hasDictIn K C=true
 po:PySem.W.plainOver K C=true
 sa:findIn K (.ref C) "__setattr__"=some (some (.builtin "object.__setattr__"))
def UO.get {K:Frag}{C:Addr}(c:UO K C)(f:Str):plainGet K C f=true:=c.pg
section
variable {X:Cx}{σ:St}{H:Hp}{A:Around}{c:Value}{b:Bool}
inductive wF (K:Frag)(H:Hp):V->Value->Prop where
 |non:wF K H .non (.type "NoneType")
 |bl (x:Bool):wF K H (.bl x) (.type "bool")
 |int (i:Int):wF K H (.int i) (.type "int")
 |str (x:Str):wF K H (.str x) (.type "str")
 |flt (x:UInt64):wF K H (.flt x) (.type "float")
 |lst {a:Addr} {xs:List V} (e:H a=some (.lst xs)):wF K H (.ref a) (.type "list")
 |frz {a:Addr} {o:Obj} {xs:List V} (e:H a=some (.frz o (.lst xs))):wF K H (.ref a) (.type "list")
 |tup {a:Addr} {xs:List V} (e:H a=some (.tup xs)):wF K H (.ref a) (.type "tuple")
 |dK {a:Addr} {kvs:List (Key×V)} (e:H a=some (.dK kvs)):wF K H (.ref a) (.type "dict")
 |dT {a:Addr} {kvs:List (List Key×V)} (e:H a=some (.dT kvs)):wF K H (.ref a) (.type "dict")
 |ins {a C dx:Addr} {fs:List (Str×V)} (e:H a=some (.ins C dx fs)) (cl:UO K C) (ha:findIn K (.ref C) "__class__"=some (some (.builtin "object.__class__")))
   (hn:PySem.W.specialIn K (.builtin "object.__class__") "__get__"=some (some (.builtin "getset_descriptor.__get__"))) (htk:PySem.W.takesIn K (.builtin "object.__class__")=some true)
   (hm:mroIn K C (.type "object")=some true):wF K H (.ref a) (.ref C)
def Eo {x:V}{t:Value}(I:Inv X pins σ H s)(r:RelV x u)(ty:wF X.K H x t)(e:kitOne X.K t c=some b)(h:∀tk,Q (.bool b) { s with toks:=tk }):
  wpAny (model X.prog X.w) A (call (.builtin "isinstance") [u,c]) Q E s:=by
 cases ty with
 |non=>cases (show u=Value.none from r);exact bQ PySem.W.kitx_none I.kIn True.intro e (λz=>nomatch z) h
 |bl y=>cases (show u=Value.bool y from r);exact bQ PySem.W.kitx_bool I.kIn True.intro e (λz=>nomatch z) h
 |int i=>obtain⟨t,q⟩:=(show ∃t,u=Value.int i t from r);cases q;exact bQ PySem.W.kitx_int I.kIn True.intro e (λz=>nomatch z) h
 |str y=>obtain⟨t,q⟩:=(show ∃t,u=Value.str y t from r);cases q;exact bQ PySem.W.kitx_str I.kIn True.intro e (λz=>nomatch z) h
 |flt y=>obtain⟨t,q⟩:=(show ∃t,u=Value.float y t from r);cases q;exact bQ PySem.W.kitx_float I.kIn True.intro e (λz=>nomatch z) h
 |@lst a xs d=>
  cases (show u=Value.ref a from r)
  obtain⟨_,_,n,_,f⟩:=(show jI X.prog X.w H s.heap a (.lst xs) from I.hok a _ d)
  exact bQ kitx_list I.kIn ⟨_,f,rfl⟩ e (λz=>nomatch z) h
 |@frz a ob xs d=>
  cases (show u=Value.ref a from r)
  obtain⟨_,_,_,n,_,f⟩:=(show jI X.prog X.w H s.heap a (.frz ob (.lst xs)) from I.hok a _ d)
  exact bQ kitx_list I.kIn ⟨_,f,rfl⟩ e (λz=>nomatch z) h
 |@tup a xs d=>
  cases (show u=Value.ref a from r)
  obtain⟨_,_,_,p⟩:=(show jI X.prog X.w H s.heap a (.tup xs) from I.hok a _ d)
  obtain⟨o,f,g,_⟩:=p;exact bQ kitx_tuple I.kIn ⟨o,f,g.1⟩ e (λz=>nomatch z) h
 |@dK a kvs d=>
  cases (show u=Value.ref a from r)
  obtain⟨_,_,vs,_,p⟩:=(show jI X.prog X.w H s.heap a (.dK kvs) from I.hok a _ d)
  obtain⟨o,m,v,f,g,_⟩:=p;exact bQ kitx_dict I.kIn ⟨o,f,g.1⟩ e (λz=>nomatch z) h
 |@dT a kvs d=>
  cases (show u=Value.ref a from r)
  obtain⟨_,_,xs,_,o,m,v,f,g,_⟩:=(show jI X.prog X.w H s.heap a (.dT kvs) from I.hok a _ d)
  exact bQ kitx_dict I.kIn ⟨o,f,g.1⟩ e (λz=>nomatch z) h
 |@ins a C dx fs d cl l hn j hm=>
  cases (show u=Value.ref a from r)
  obtain⟨M,O,_⟩:=BH I.hok d;obtain⟨B,J,_⟩:=O.look;exact bQ (PySem.W.kitx_own (cl.get _) cl.hd l hn j hm) I.kIn J e (λz=>nomatch z) h
end
structure jx (k:Nat)(A:Around):Prop where
 hd:A.handled=none
 dp:A.depth+3 * k+5<recursionLimit
 un:A.units+16 * k+200<cLine
def jx.mono {j k:Nat}{A:Around}(r:jx k A)(h:j<=k):jx j A:=⟨r.hd,by have:=r.dp;omega,by have:=r.un;omega⟩
theorem jx.deeper {k:Nat}{A:Around}(r:jx (k+1) A)(env:Env):jx k (A.deeper env):=
 ⟨r.hd,by have:=r.dp;show A.depth+1+3 * k+5<_;omega,by have:=r.un;show A.units+3+16 * k+200<_;omega⟩
theorem jx.depth {k:Nat}{A:Around}(r:jx k A):A.depth<recursionLimit:=by have:=r.dp;omega
theorem jx.units {k:Nat}{A:Around}(r:jx k A):A.units+64<cLine:=by have:=r.un;omega
noncomputable def MV:TA:=λ_ H Q=>Q [] H
noncomputable def Mw (t:TE)(tr:TA):TA:=λσ H Q=>t σ H λx H1=>tr σ H1 λxs h=>Q (x::xs) h
section
variable {X:Cx}{es:cc}{te:TE}{t:TA}
def jP:PA X [] MV:=λ_ _ _ _ H Q I h=>Calls.spliced_nil ⟨[],H,I,.nil,h⟩
def jq (f:PE X e te)(d:PA X es t)(c:starEach (e::es) X.env=(false,eval e X.env)::starEach es X.env:=by rfl):PA X (e::es) (Mw te t):=by
 intro pos pins s σ H Q I h;rw[c];show wpAny _ _ (spliced ((false,eval e X.env)::backTo pos (starEach es X.env))) _ _ s;refine Calls.spliced_cons (zU (f pins s σ H _ I h) λu s1 ⟨x,H1,g,a,b⟩=>?_);exact zU (d pos pins s1 σ H1 _ g b) λus s2 ⟨xs,j,i,r,q⟩=>⟨x::xs,j,i,.cons a r,q⟩
def dH (t:TA):TE:=λσ H Q=>t σ H λxs H1=>xs.length<=sizeLine/\∀p,H1 p=none->Q (.ref p) (upd H1 p (.tup xs))
def dI (t:TA):TE:=λσ H Q=>t σ H λxs H1=>xs.length<=sizeLine/\∀p,H1 p=none->Q (.ref p) (upd H1 p (.lst xs))
def dJ {x1}(h:PA X es t):PE X (.Tuple es x1 pos) (dH t):=by
 intro pins s σ H Q I a;refine wpAny_Tuple_spliced (zU (h pos pins s σ H _ I a) λus s1 ⟨xs,H1,i,r,z,q⟩=>⟨by rw[<- r.length];exact z,?_⟩)
 have hf:H1 s1.heap.objs.size=none:=i.hok.fresh (ao _);refine⟨.ref s1.heap.objs.size,upd H1 s1.heap.objs.size (.tup xs),i.laid (t':=s1.toks) (λb u e=>ae _ e) (ao _) ?_,rfl,q _ hf⟩;exact⟨z,us,r,⟨_,au _ rfl,⟨rfl,rfl⟩,_,rfl⟩⟩
def dM (h:PA X es t):PE X (.List es pos) (dI t):=by
 intro pins s σ H Q I a;refine wpAny_List_spliced (zU (h pos pins s σ H _ I a) λus s1 ⟨xs,H1,i,r,z,q⟩=>⟨by rw[<- r.length];exact z,?_⟩)
 have hf:H1 s1.heap.objs.size=none:=i.hok.fresh (ao _);refine⟨.ref s1.heap.objs.size,upd H1 s1.heap.objs.size (.lst xs),i.laid (t':=s1.toks) (λb u e=>ae _ e) (ao _) ?_,rfl,q _ hf⟩;exact⟨z,us,0,r,au _ rfl⟩
end
abbrev Sp:=List V->Hp->VK->XK->Prop
abbrev wM:=List Env->Hp->Shared->XK->Value->Shared->Prop
structure Gm (P:Program)(w:World)(K:Frag)(mg:cg)(base:Heap)(A:Around)(outer:ck)(s:Shared)(H:Hp):Prop where
 frames:A.frames=some outer
 mod:Mod K mg base
 bs:∀b o,base.get? b=some o->s.heap.get? b=some o/\H b=none
 bsz:base.objs.size<=s.heap.objs.size
 funs:s.heap.FunFrames base outer
 frf:∀b∈gW outer,H b=none
 hok:jE P w H s.heap
 bare:AllBare s.gens
inductive CE (outer:ck)(P:Program)(w:World)(H:Hp)(s:Shared)(Q:VK)(u:Value)(s':Shared):Prop
 |mk (v:V) (H':Hp) (os:s'.os=s.os) (b:AllBare s'.gens) (un:Un (gW outer) [] H H' s.heap s'.heap) (hk:jE P w H' s'.heap) (r:RelV v u) (q:Q v H')
def CR (CX:wM)(outer:ck)(P:Program)(w:World)(H:Hp)(s:Shared)(Q:VK)(E:XK)(r:Result)(S:Shared):Prop:=
 match r with
 |.ok (.ret u)=>CE outer P w H s Q u S|.ok _=>False|.error e=>CX outer H s E e S
structure yR (P:Program)(w:World)(K:Frag)(mg:cg)(base:Heap)(CX:wM)(k:Nat)(f:Addr)(fd:FuncData)(ps:b9)(sp:Sp):Prop where
 len:∀vs H Q E,sp vs H Q E->vs.length=ps.length
 run:∀(A:Around)(outer:ck)(s:Shared)(H:Hp)(args:Args)(us:b4)(vs:List V)(Q:VK)(E:XK),jx k A->Gm P w K mg base A outer s H->BindsTo s fd args (ps.zip us)->Vals vs us->sp vs H Q E->
  codeAny (model P w) A (.call (.ref f) args) (CR CX outer P w H s Q E) s
theorem yR.mono {K:Frag}{CX:wM}{j k:Nat}{f:Addr}{sp:Sp}(F:yR P w K mg base CX j f fd ps sp)(h:j<=k):
  yR P w K mg base CX k f fd ps sp:=⟨F.len,λA outer s H args us vs Q E r=>F.run A outer s H args us vs Q E (r.mono h)⟩
def yR.imp {K:Frag}{CX:wM}{k:Nat}{f:Addr}{sp S:Sp}(F:yR P w K mg base CX k f fd ps sp)
  (h:∀vs H Q E,S vs H Q E->sp vs H Q E):yR P w K mg base CX k f fd ps S:=
 ⟨λvs H Q E q=>F.len vs H Q E (h _ _ _ _ q),λA outer s H args us vs Q E r he b v a=>F.run A outer s H args us vs Q E r he b v (h _ _ _ _ a)⟩
section
variable {X:Cx}{σ:St}{H:Hp}{s':Shared}
def Inv.env0 (I:Inv X pins σ H s):Gm X.prog X.w X.K X.mg X.base X.A X.stack s H:=
 ⟨I.ok.frames,I.ok.mod,I.bs,bw I.ok.bsz I.sz,I.stack,I.stkFree,I.hok,I.bare⟩
def Inv.after {Q:VK}(I:Inv X pins σ H s)(h:CE X.stack X.prog X.w H s Q u s'):EP X pins σ Q u s':=by
 obtain⟨v,c,os,bare,un,hok,r,q⟩:=h;obtain⟨a,g,d,t,o⟩:=s';obtain rfl:o=s.os:=os;exact⟨v,c,I.call (h':=a) (g':=g) (d':=d) (t':=t) (ch:=[]) un hok bare (λb z=>absurd z (by simp)),r,q⟩
end
noncomputable def dN (sp:Sp)(d:List V)(E:XK)(t:TA):TE:=λσ H Q=>t σ H λvs H1=>sp (vs++d) H1 Q E
def Binds (K:Frag)(fd:FuncData)(p:b9)(ds:b4):Prop:=
 ∀(s:Shared)(us:b4),K.In s.heap->(us++ds).length=p.length->BindsTo s fd ⟨us,[]⟩ (p.zip (us++ds))
def Binds.all {K:Frag}(h:∀us:b4,us.length=ps.length->bindArgs fd ⟨us,[]⟩=pure (ps.zip us)):Binds K fd ps []:=λs us _ H=>by
 rw[bI]at H ⊢;exact .of_eq (h us H)
def Passes (CX:wM)(X:Cx)(E:XK):Prop:=∀(pins:b6)(σ:St)(H:Hp)(s:Shared)(e:Value)(s':Shared),Inv X pins σ H s->CX X.stack H s E e s'->X.xe e s'
section
variable {X:Cx}{CX:wM}{k:Nat}{f:Addr}{sp:Sp}{dvs:List V}{ds:b4}{E:XK}{es:cc}{t:TA}
def dO {σ:St}{H:Hp}{Q:VK}{vs:List V}(F:yR X.prog X.w X.K X.mg X.base CX k f fd ps sp)(b:jx k X.A)(c:Binds X.K fd ps ds)(hd:Vals dvs ds)(x:Passes CX X E)
  (I:Inv X pins σ H s)(r:Vals vs us)(h:sp (vs++dvs) H Q E):wpAny (model X.prog X.w) X.A (call (.ref f) us) (EP X pins σ Q) X.xe s:=by
 have a:Vals (vs++dvs) (us++ds):=r.append hd;have l:(us++ds).length=ps.length:=by rw[<- a.length];exact F.len _ _ _ _ h
 refine wpAny_call (codeAny_mono (F.run X.A X.stack s H ⟨us,[]⟩ (us++ds) (vs++dvs) Q E b I.env0 (c s us I.kIn l) a h) λr S q=>?_);cases r with
 |error e=>exact x pins σ H s e S I q|ok d=>
  cases d with
  |ret u=>exact I.after q|next=>exact False.elim q|brk=>exact False.elim q|cont=>exact False.elim q
def BX (F:yR X.prog X.w X.K X.mg X.base CX k f fd ps sp)(c:jx k X.A)(g:Gl X x)(hm:X.mg x=some (.ref f))(d:keepIn X.K (.ref f)=true)(j:Binds X.K fd ps ds)(hd:Vals dvs ds)(a:Passes CX X E)
  (m:PA X (e::es) t)(b:(x==("__debug__":Str))=false:=by decide)(he:starEach (e::es) X.env=(false,eval e X.env)::starEach es X.env:=by rfl)(l:(backTo pos (starEach es X.env)).any (·.1)=false:=by rfl):
  PE X (.Call (.Name x p) (e::es) [] pos) (dN sp dvs E t):=by
 intro pins s σ H Q I h;refine wpAny_Call_Name_kw (OS I g hm ?_ b);refine PySem.W.callWith_K (h₀:=X.base) I.ok.mod.kin d (zU (m pos pins s σ H _ I h) λus s1 ⟨vs,H1,i,r,q⟩=>⟨i.kIn,?_⟩) he l;exact dO F c j hd a i r q
end
structure qL (N P:b9)(sc:Scope):Prop where
 kind:sc.kind=.function
 co:sc.isCoroutine=false
 gen:sc.isGenerator=false
 nd:N.Nodup
 pre:N.take P.length=P
 par:∀x∈P,sc.names.lookup x=some .local∨sc.names.lookup x=some .cell
 nofree:∀y∈sc.names,y.2≠.free
theorem Pr {kindOf:Str->Option NameKind}:∀{binds:List (Str×Value)}{m:cg},(∀v,(x,v)∉binds)->bindL kindOf binds m x=m x
 |[],_,_=>rfl|(n,v)::r,m,h=>by
  unfold bindL;rw[Pr λw hw=>h w (aw _ hw)]
  split
  ·have:x≠n:=by rintro rfl;exact h v ay
   simp[this]
  ·rfl
theorem Pq {kindOf:Str->Option NameKind}:∀{binds:List (Str×Value)}{m:cg},(∀v,(x,v)∉binds)->bindC kindOf binds m x=m x
 |[],_,_=>rfl|(n,v)::r,m,h=>by
  unfold bindC;rw[Pq λw hw=>h w (aw _ hw)]
  split
  ·rfl
  ·have:x≠n:=by rintro rfl;exact h v ay
   simp[this]
theorem Pj {kindOf:Str->Option NameKind}{v:Value}:∀{P:b9}{vs:b4}{i:Nat}{m:cg},P.Nodup->P[i]? =some x->vs[i]? =some v->kindOf x=some .local->
  bindL kindOf (P.zip vs) m x=some v
 |[],_,_,_,_,h,_,_=>by simp at h|_::_,[],_,_,_,_,h,_=>by simp at h|p::P,w::vs,0,m,nd,h1,H,a=>by
  simp at h1 H;subst h1;subst H;show bindL kindOf ((p,w)::P.zip vs) m p=_;unfold bindL;rw[Pr λv b=>(List.nodup_cons.mp nd).1 (of_mem_zip b).1,ah a];simp
 |p::P,w::vs,i+1,m,nd,h1,H,a=>by
  show bindL kindOf ((p,w)::P.zip vs) m x=_;unfold bindL;exact Pj (i:=i) (List.nodup_cons.mp nd).2 (by simpa using h1) (by simpa using H) a
theorem Pa {kindOf:Str->Option NameKind}{v:Value}:∀{P:b9}{vs:b4}{i:Nat}{m:cg},P.Nodup->P[i]? =some x->vs[i]? =some v->kindOf x≠some .local->
  bindC kindOf (P.zip vs) m x=some v
 |[],_,_,_,_,h,_,_=>by simp at h|_::_,[],_,_,_,_,h,_=>by simp at h|p::P,w::vs,0,m,nd,h1,H,a=>by
  simp at h1 H;subst h1;subst H;show bindC kindOf ((p,w)::P.zip vs) m p=_;unfold bindC;rw[Pq λv b=>(List.nodup_cons.mp nd).1 (of_mem_zip b).1,aj a];simp
 |p::P,w::vs,i+1,m,nd,h1,H,a=>by
  show bindC kindOf ((p,w)::P.zip vs) m x=_;unfold bindC;exact Pa (i:=i) (List.nodup_cons.mp nd).2 (by simpa using h1) (by simpa using H) a
noncomputable def start (N:b9)(vs:List V):St:=vs.map some++List.replicate (N.length-vs.length) none
noncomputable def Qy (CX:wM)(P:Program)(w:World)(K:Frag)(mg:cg)(base:Heap)(N:b9)(qual:Str)(scope:Scope)(f:Addr)(cd:Value)(A:Around)(outer:ck)(s:Shared)(H:Hp)(E:XK):Cx where
 prog:=P
 w:=w
 K:=K
 mg:=mg
 base:=base
 A:=A.deeper (envOfC qual scope s.heap.objs.size f cd)
 N:=N
 s0:=s
 H0:=H
 env:=envOfC qual scope s.heap.objs.size f cd
 outer:=outer
 stack:=envOfC qual scope s.heap.objs.size f cd::outer
 ex:=[]
 calm:=true
 fn:=λ_=>true
 pn:=[]
 xe:=λe a=>wpAny (model P w) (A.deeper (envOfC qual scope s.heap.objs.size f cd)) (leaving (envOfC qual scope s.heap.objs.size f cd) e) (λ_ S=>CX outer H s E e S) (λb S=>CX outer H s E b S) a
def Oj (h:sc.names.lookup x=some .cell):∃c,(cellsFrom n sc.names []).lookup x=some c:=by
 have q:=cellsFrom_some sc.names n [] (.inl h);exact Option.isSome_iff_exists.mp q
def EF {CX:wM}{K:Frag}{qual:Str}{f:Addr}{cd:Value}{A:Around}{outer:ck}{s1:Shared}{H:Hp}{E:XK}{vs:List V}
  (S:qL N ps scope)(hd:A.handled=none)(g:Gm P w K mg base A outer s H)(M:vs.length=ps.length)(r:Vals vs us)
  (x:InCallC s s.heap.objs.size (bindL (envOfC qual scope s.heap.objs.size f cd).kindOf (ps.zip us) λ_=>none) (cellsFrom (s.heap.objs.size+1) scope.names []) (bindC (envOfC qual scope s.heap.objs.size f cd).kindOf (ps.zip us) λ_=>none) s1):
  Inv (Qy CX P w K mg base N qual scope f cd A outer s H E) [] (start N vs) H s1:=by
 have J:ps.length<=N.length:=by have:=congrArg List.length S.pre;rw[bY]at this;omega
 obtain⟨B,tk,rfl,D⟩:=x.done;have j:∀b:Addr,b∉(Qy CX P w K mg base N qual scope f cd A outer s H E).ex:=λb z=>absurd (show b∈([]:b5) from z) (by simp)
 refine⟨⟨g.mod,S.kind,rfl,rfl,ao _,λy z c B d=>?_,λy l=>?_,λy c _ h=>?_,λ_=>hd,Around.frames_deeper g.frames,.inr ⟨rfl,rfl⟩,λb z=>absurd z (j b),g.bs,g.bsz,λb _ _=>j b,λb z=>absurd z (j b),g.funs,g.frf⟩,
  rfl,g.bare,Un.kept D,⟨_,x.toInCall.ns,λi y v B d Q=>?_⟩,λy c h=>⟨_,x.cell y c h⟩,g.hok.fresh (ao _),λy c h=>?_,λp o=>absurd (show p∈([]:b6) from o) (by simp),g.hok.kept D,?_⟩
 ·exact name_of_addr x.apart (PySem.mem_of_lookup B) (PySem.mem_of_lookup d)
 ·have l:scope.names.lookup y=some .cell∨scope.names.lookup y=some .free:=l
  rcases l with l|l
  ·exact Oj l
  ·exact absurd rfl (S.nofree _ (PySem.mem_of_lookup l))
 ·exact bJ (x.above y c (PySem.mem_of_lookup h))
 ·have t:i<vs.length:=by
   unfold start at d
   by_cases t:i<vs.length
   ·exact t
   ·rw[ar (by simpa using t)]at d
    rw[List.getElem?_replicate]at d
    split at d<;>cases d
  have L:vs[i]? =some v:=by
   unfold start at d;rw[ai (by simpa using t),av]at d
   cases e:vs[i]? with
   |none=>rw[e]at d;cases d|some a=>rw[e]at d;cases d;rfl
  obtain⟨u,C,I⟩:=r.get L;have o:ps[i]? =some y:=by
   rw[<- S.pre,List.getElem?_take_of_lt (by omega)];exact B
  have m:ps.Nodup:=by rw[<- S.pre];exact S.nd.sublist (List.take_sublist _ _)
  refine⟨u,I,?_⟩;rcases S.par y (bO o) with k|k
  ·exact .inl ⟨k,Pj m o C k⟩
  ·obtain⟨c,e⟩:=Oj (n:=s.heap.objs.size+1) k
   refine .inr ⟨.inl k,c,e,?_⟩;have q:=x.cell y c e;rw[Pa m o C (by show scope.names.lookup y≠_;rw[k];decide)]at q
   exact q
 ·exact g.hok.fresh (bJ (x.above y c (PySem.mem_of_lookup h)))
 ·unfold start
  show _=N.length;rw[aB,ag,length_replicate];omega
def dP {CX:wM}{K:Frag}{k:Nat}{f:Addr}{name qual:Str}{params:Arguments}{D kV doc pm c ct L:Value}{an C:cp}
  {sp:Sp}(M:K.lookup f=some ⟨L,C,.func (fnOf name qual params body scope D kV doc pm an c ct),osl⟩)(B:codeIn K c qual=true)(S:qL N ps scope)
  (len:∀vs H Q E,sp vs H Q E->vs.length=ps.length)
  (g:∀(A:Around)(outer:ck)(s:Shared)(H:Hp)(vs:List V)(Q:VK)(E:XK),jx k (A.deeper (envOfC qual scope s.heap.objs.size f c))->sp vs H Q E->
   ∃t,yS (Qy CX P w K mg base N qual scope f c A outer s H E) body t/\t { nx:=λ_ h=>Q .non h,rt:=Q } (start N vs) H):
  yR P w K mg base CX (k+1) f (fnOf name qual params body scope D kV doc pm an c ct) ps sp:=by
 refine⟨len,λA outer s H args us vs Q E z j Z r p=>?_⟩;have Y:=len _ _ _ _ p;have X:K.In s.heap:=j.mod.kin.keeps λb o e=>(j.bs b o e).1;have lim:s.heap.NoLimit:=j.mod.nolimit.keeps λb o e=>(j.bs b o e).1;have d:∀y∈ps.zip us,scope.names.lookup y.1=some .local∨(scope.names.lookup y.1=some .cell/\((cellsFrom (s.heap.objs.size+1) scope.names []).lookup y.1).isSome=true):=λ⟨n,v⟩ T=>by
  rcases S.par n (of_mem_zip T).1 with q|q
  ·exact .inl q
  ·exact .inr ⟨q,cellsFrom_some _ _ _ (.inl q)⟩
 refine codeAny_call_function z.depth (X _ _ M) rfl S.co S.gen rfl (PySem.W.codeRec_of X B) (Z _ _ _ _ ?_);refine wpAny_newFunctionEnv_cells S.kind d λenv he s1 x=>?_;subst he;refine⟨lim.keeps x.toInCall.keep,codeAny_func ?_⟩;obtain⟨t,ht,U⟩:=g A outer s H vs Q E (z.deeper _) p;have I:Inv (Qy CX P w K mg base N qual scope f c A outer s H E) [] (start N vs) H s1:=EF S z.hd j Y r x;refine wpAny_mono (ht [] s1 (start N vs) H _ I U) (λfl l i=>?_) λe l i=>i;have fin:∀{a:St}{h:Hp}{v:V}{u:Value},Inv (Qy CX P w K mg base N qual scope f c A outer s H E) [] a h l->RelV v u->Q v h->CE outer P w H s Q u l:=
  λ {a h v u} J m q=>⟨v,h,J.os,J.bare,J.base,J.hok,m,q⟩
 cases fl with
 |ret u=>
  obtain⟨v,a,h,J,m,q⟩:=i;exact fin J m q
 |next=>
  obtain⟨a,h,J,q⟩:=i;exact fin (v:=V.non) (u:=Value.none) J rfl q
 |brk=>
  obtain⟨_,_,_,q⟩:=i;exact False.elim q
 |cont=>
  obtain⟨_,_,_,q⟩:=i;exact False.elim q
section
variable {X:Cx}{es:cc}{t:TA}{id T:String}{r:List V->Hp->VK->Prop}
noncomputable def UT (r:List V->Hp->VK->Prop)(t:TA):TE:=λσ H Q=>t σ H λvs H1=>r vs H1 Q
def JK (c:jN X (.builtin id) r)(g:Gl X x)(hm:X.mg x=none)(v:bootBuiltins x=some (.builtin id))(d:PA X (e::es) t)(hn:x ≠ "__name__":=by decide)(b:(x==("__debug__":Str))=false:=by decide)
  (he:starEach (e::es) X.env=(false,eval e X.env)::starEach es X.env:=by rfl)(l:(backTo pos (starEach es X.env)).any (·.1)=false:=by rfl):PE X (.Call (.Name x p) (e::es) [] pos) (UT r t):=by
 intro pins s σ H Q I h;refine wpAny_Call_Name_kw (Zf I g hm v ?_ hn b);exact PyProof.Rows.callWith_builtin1 (zU (d pos pins s σ H _ I h) λus s1 ⟨vs,H1,i,a,q⟩=>c pins s1 σ H1 vs us Q i a q) he l
def Qd (c:jN X (.type T) r)(g:Gl X x)(hm:X.mg x=none)(v:bootBuiltins x=some (.type T))(d:PA X (e::es) t)(hn:x ≠ "__name__":=by decide)(b:(x==("__debug__":Str))=false:=by decide)
  (he:starEach (e::es) X.env=(false,eval e X.env)::starEach es X.env:=by rfl)(l:(backTo pos (starEach es X.env)).any (·.1)=false:=by rfl):PE X (.Call (.Name x p) (e::es) [] pos) (UT r t):=by
 intro pins s σ H Q I h;refine wpAny_Call_Name_kw (Zf I g hm v ?_ hn b);exact PyProof.Rows.callWith_type1 (zU (d pos pins s σ H _ I h) λus s1 ⟨vs,H1,i,a,q⟩=>c pins s1 σ H1 vs us Q i a q) he l
end
end L2
variable {X:L2.Cx}{H:L2.Hp}{xs:List (List L2.Key×PySem.Addr×PySem.Value)}{kvs:List (List L2.Key×L2.V)}{ys:List L2.V}{r:List L2.V->L2.Hp->L2.VK->Prop}{σ:L2.St}{v:L2.V}
namespace HT
open PySem PyProof.Rows
noncomputable def lexLt:List Int->List Int->Bool
 |[],[]=>false|[],_::_=>true|_::_,[]=>false|x::xs,y::ys=>if x=y then lexLt xs ys else decide (x<y)
def FN (x y:Int)(xs Y:b3):lexLt (x::xs) (y::Y)=if x=y then lexLt xs Y else decide (x<y):=rfl
def IV:lexLt [] []=false:=rfl
def IB (y:Int)(Y:b3):lexLt [] (y::Y)=true:=rfl
def IG (x:Int)(xs:b3):lexLt (x::xs) []=false:=rfl
def D7 (A:Around)(s:Shared)(a:Int)(t:Tok)(c:Int)(u:Tok):∃e,SeqAt.EqAt A s (.int a t) (.int c u) e/\(e=true↔a=c):=
 ⟨(a==c),SeqAt.EqAt.int_int a t c u,by simp⟩
def DR (A:Around)(s:Shared)(a:Int)(t:Tok)(c:Int)(u:Tok)(prog:Program)(w:World)(E:cb)(Q:cb)(h:Q (.bool (decide (a<c))) s):
  wpAny (model prog w) A (richCompare .Lt (.int a t) (.int c u)) Q E s:=
 (PyProof.Rows.lt_int h:wpAny (model prog w) A (compareOp .Lt (.int a t) (.int c u)) Q E s)
section
open PySem.SeqAt
open PySem.AutoSeq1 (wpAny_loadPart')
open PySem.MeetsSeq PySem.MeetsSeq2 PySem.MeetsSeq3
def I9 (l b:Addr)(items i:Array Value)(n Q:Nat)(Z J:cp)(P S:Array (b8))(ns ms:b3)(M:IntsAre items.toList ns)(L:IntsAre i.toList ms):
  Meets (Builtin.«tuple.__lt__» ⟨[.ref l,.ref b],[]⟩)
   (λ_ R s=>s.heap.get? l=some { cls:=.type "tuple",dict:=Z,data:=.seq items n,slots:=P }/\s.heap.get? b=some { cls:=.type "tuple",dict:=J,data:=.seq i Q,slots:=S }/\
    R (.ok (.ret (.bool (lexLt ns ms)))) s):=
 .of_wp λprog w A R s h=>by
  obtain⟨C,g,d,tk,os⟩:=s;obtain⟨X,Y,h⟩:=h;have f2:=AutoSeq1.sub_tuple_tuple;have z1:items.size=ns.length:=by rw[<- M.length];simp
  have z2:i.size=ms.length:=by rw[<- L.length];simp
  wp_walk using wpAny_loadPart' X,wpAny_loadPart' Y,wpAny_forIn_list _ (λrest b D=>b.1=none/\D=⟨C,g,d,tk,os⟩/\∃(vs ws:b4) (N m:b3),rest=vs.zip ws/\
   IntsAre vs N/\IntsAre ws m/\N.length+i.size=m.length+items.size/\R (.ok (.ret (.bool (lexLt N m)))) ⟨C,g,d,tk,os⟩) _
  case turn=>
   rintro⟨y,x⟩ rest b D ⟨v,rfl,vs,ws,N,m,H,p,f,hlen,o⟩
   cases p with
   |nil=>rw[List.zip_nil_left]at H;cases H|cons a t B=>
    cases f with
    |nil=>rw[List.zip_nil_right]at H;cases H|cons c u z=>
     rw[List.zip_cons_cons]at H;injection H with E r
     injection E with T U
     subst T U;rw[FN]at o;simp only[aN]at hlen;obtain⟨e,he,j⟩:=D7 A.in1 ⟨C,g,d,tk,os⟩ a t c u;refine cu (he prog w _ _ ?_);cases e with
     |true=>
      rw[ah (j.mp rfl)]at o
      wp_walk
      exact⟨rfl,rfl,_,_,_,_,r,B,z,by omega,o⟩
     |false=>
      rw[aj (λq=>absurd (j.mpr q) az)]at o;have I:=DR A.in1 ⟨C,g,d,tk,os⟩ a t c u prog w
      wp_walk using I
      exact⟨_,rfl,by simpa using o⟩
  case fin=>
   rintro⟨b1,b2⟩ D ⟨v,rfl,vs,ws,N,m,H,p,f,hlen,o⟩
   simp only at v;subst v;have K:lexLt N m=decide (items.size<i.size):=by
    cases p with
    |nil=>
     cases f with
     |nil=>
      simp only[bE]at hlen;rw[IV];exact(ax (by omega)).symm
     |cons c u hw=>
      simp only[bE,aN]at hlen;rw[IB];exact(aq (by omega)).symm
    |cons a t K=>
     cases f with
     |nil=>
      simp only[bE,aN]at hlen;rw[IG];exact(ax (by omega)).symm
     |cons c u hw=>
      rw[List.zip_cons_cons]at H;cases H
   rw[K]at o
   wp_walk
   exact⟨_,rfl,by simpa[Builtin.Tuple.tupleCompareSizes] using o⟩
  case h=>
   exact⟨rfl,rfl,items.toList,i.toList,ns,ms,rfl,M,L,by omega,h⟩
end
section
variable {prog:Program}{A:Around}
def Ry {l:Addr}{i:Array Value}{ms:b3}(f:IsTup s.heap l items)(m:IsTup s.heap b i)(g:IntsAre items.toList ns)(j:IntsAre i.toList ms)
  (u:A.units<cLine)(h:Q (.bool (lexLt ns ms)) s):wpAny (model prog w) A (compareOp .Lt (.ref l) (.ref b)) Q E s:=by
 obtain⟨⟨cls,D,data,e⟩,o,c,n,hd⟩:=id f;obtain⟨⟨C,d,data2,S⟩,H,a,N,hd2⟩:=id m;simp only at c hd a hd2;subst c hd a hd2;exact richCompare_meets_room (op:=.Lt) ⟨_,o,rfl⟩ ⟨_,H,rfl⟩ PySem.F.slot_tuple_lt PySem.F.entry_tuple_lt (PySem.F.args_tuple_lt_2 _ _) (I9 l b items i n N D d e S ns ms g j)
  ⟨o,H,show Value.bool (lexLt ns ms)≠Value.notImplemented/\Q (.bool (lexLt ns ms)) s from ⟨(λx=>nomatch x),h⟩⟩ u
def AF {t:Addr}{ws:b4}(ht:IsTup s.heap t vs.toArray)(a:IsTup s.heap b ws.toArray)(v:vs≠[])
  (g:ws=[]->Q (.ref t) s)(f:ws≠[]->Q (.ref s.heap.objs.size) { s with heap:=s.heap.push { cls:=.type "tuple",data:=.seq (vs++ws).toArray } })
  (hsz:vs.length+ws.length<=sizeLine):wpAny (model prog w) A (binaryOp .Add (.ref t) (.ref b)) Q E s:=by
 obtain⟨⟨cls,D,data,l⟩,o,c,n,hd⟩:=id ht;obtain⟨⟨C,d,data2,S⟩,h,H,N,hd2⟩:=id a;simp only at c hd H hd2;subst c hd H hd2;have e:vs.toArray++ws.toArray=(vs++ws).toArray:=by simp
 by_cases hw:ws=[]
 ·exact concat_meets ⟨_,o,rfl⟩ ⟨_,h,rfl⟩ noFill_tuple_add seq_tuple_add slot_tuple_add entry_tuple_add (args_tuple_add_2 _ _)
   (tuple_addW1 t b vs.toArray ws.toArray n N D d l S (by simpa using v) (by simp[hw])) ⟨o,h,g hw⟩
 ·refine concat_meets ⟨_,o,rfl⟩ ⟨_,h,rfl⟩ noFill_tuple_add seq_tuple_add slot_tuple_add entry_tuple_add (args_tuple_add_2 _ _)
   (tuple_addW2 t b vs.toArray ws.toArray n N D d l S (by simpa using v) (by simpa using hw) (by rw[aA,aA];exact hsz)) ⟨o,h,?_⟩
  rw[e];exact f hw
noncomputable def qf (n d:Nat):Option Int->Nat
 |none=>d|some v=>if v<0 then(v+(n:Int)).toNat else min v.toNat n
def dQ (n d:Nat)(hd:d<=n)(o:cf):qf n d o<=n:=by
 cases o with
 |none=>exact hd|some v=>
  show(if v<0 then(v+(n:Int)).toNat else min v.toNat n)<=n
  by_cases h:v<0
  ·rw[ah h];omega
  ·rw[aj h];exact Nat.min_le_right _ _
def Ov (v:Int)(n d:Nat):(if v<0 then max (v+(n:Int)) 0 else min v (n:Int))=((qf n d (some v):Nat):Int):=by
 show(if v<0 then max (v+(n:Int)) 0 else min v (n:Int))=(((if v<0 then(v+(n:Int)).toNat else min v.toNat n):Nat):Int)
 by_cases h:v<0
 ·simp only[ah h];omega
 ·simp only[aj h];omega
def Fq (lo h:cf)(n:Nat):Builtin.Slice.sliceAdjust lo h 1 (n:Int)=(((qf n 0 lo:Nat):Int),((qf n n h:Nat):Int)):=by
 have H:¬((1:Int)<0):=by omega
 unfold Builtin.Slice.sliceAdjust;simp only[H,if_false];refine Prod.ext ?_ ?_
 ·cases lo with
  |none=>rfl|some v=>exact Ov v n 0
 ·cases h with
  |none=>rfl|some v=>exact Ov v n n
def FP (i j:Nat):Builtin.Slice.slicePlaces (i:Int) (j:Int) 1=j-i:=by
 unfold Builtin.Slice.slicePlaces;have h:(1:Int) > 0:=by omega
 simp only[h,if_true,Int.ediv_one]
 split<;>omega
def Rx {v:Value}{o:cf}{Q:Option Int->Shared->Prop}(p:IsPart v o)(h:Q o s):wpAny (model prog w) A (Builtin.Slice.slicePartIndex v) Q E s:=by
 cases p with
 |none=>exact slicePart_none h|int i t=>exact slicePart_int h
def TK {S:Addr}{l v:Value}{lo i:cf}{Q:Int×Int×Nat->Shared->Prop}(b:s.heap.IsSliceOf S l v .none)(p:IsPart l lo)(pu:IsPart v i)
  (h:Q (((qf n 0 lo:Nat):Int),1,qf n n i-qf n 0 lo) s):wpAny (model prog w) A (Builtin.Slice.sliceApplied (.ref S) (pure (n:Int))) Q E s:=by
 obtain⟨os,H,c,a⟩:=id b;unfold Builtin.Slice.sliceApplied Builtin.Slice.sliceFields;refine cu (cu (wpAny_field H a (x:=l) rfl (cu (wpAny_field H a (x:=v) rfl (cu (wpAny_field H a (x:=.none) rfl (cw ?_)))))));refine cu (slicePart_none ?_);show wpAny _ _ (if ((1:Int)==0)=true then _ else _) _ _ s;rw[aj (by decide)]
 refine cu (Rx p (cu (Rx pu (cu (cw ?_)))));show wpAny _ _ (match Builtin.Slice.sliceAdjust lo i 1 (n:Int) with|(lo,i)=>pure (lo,(1:Int),Builtin.Slice.slicePlaces lo i 1)) _ _ s
 rw[Fq lo i n];show wpAny _ _ (pure (((qf n 0 lo:Nat):Int),(1:Int),Builtin.Slice.slicePlaces ((qf n 0 lo:Nat):Int) ((qf n n i:Nat):Int) 1)) _ _ s;rw[FP];exact cw h
def DO (xs:Array Value)(i k:Nat):((List.range k).filterMap λ(m:Nat)=>xs[((i:Int)+(m:Int) * 1).toNat]?).toArray=((xs.toList.drop i).take k).toArray:=by
 have e:(λ(m:Nat)=>xs[((i:Int)+(m:Int) * 1).toNat]?)=λm=>xs[i+m]?:=by
  funext m
  have:((i:Int)+(m:Int) * 1).toNat=i+m:=by omega
  rw[this]
 rw[e]
 have:=pick_run xs i k
 rw[List.filterMap_map]at this;have E:((λx=>xs[x]?) ∘ λx=>i+x)=λm=>xs[i+m]?:=rfl;rw[E]at this;rw[this]
def L6 {t S:Addr}{l v:Value}{lo i:cf}(ht:IsTup s.heap t items)(d:s.heap.IsSliceOf S l v .none)(p:IsPart l lo)(pu:IsPart v i)
  (hw:¬(qf items.size 0 lo=0/\qf items.size items.size i=items.size))
  (h:Q (.ref s.heap.objs.size) { s with heap:=s.heap.push { cls:=.type "tuple",data:=.seq ((items.toList.drop (qf items.size 0 lo)).take (qf items.size items.size i-qf items.size 0 lo)).toArray } })
  (hsz:items.size<=sizeLine):wpAny (model prog w) A (getItem (.ref t) (.ref S)) Q E s:=by
 have H:sizeOk (.seq ((items.toList.drop (qf items.size 0 lo)).take (qf items.size items.size i-qf items.size 0 lo)).toArray):=by
  show((items.toList.drop (qf items.size 0 lo)).take (qf items.size items.size i-qf items.size 0 lo)).toArray.size<=sizeLine;rw[aA,bY,bZ,aO];omega
 have j:qf items.size items.size i<=items.size:=dQ _ _ (ao _) i;obtain⟨os,a,b,e⟩:=id d;have c:s.TypeIs (.ref S) "slice":=⟨os,a,b⟩;unfold getItem
 try with_reducible refine wpAny_holding ?_
 first|refine cu (cw ?_)|skip
 refine cu (wpAny_sequenceKey ht.typeIs (by decide) ?_)
 refine cu (wpAny_callSpecial?_slot (name:=Str.ofString "__getitem__") ht.typeIs PyProof.Rows.slot_tuple_getitem
  (wpAny_call_entry PyProof.Rows.slot_tuple_getitem ht.typeIs entry_tuple_getitem ?_ (args_tuple_getitem _ _)))
 show wpAny _ _ (Builtin.Tuple.tupleItemsOf (.ref t) >>= _) _ _ s;refine cu (tupleItemsOf_ ht ?_);refine cu (wpAny_typeOf c ?_);rw[ah (by decide)]
 refine cu (TK d p pu ?_);have o:¬((((qf items.size 0 lo:Nat):Int)==0&&(1:Int)==1&&(qf items.size items.size i-qf items.size 0 lo)==items.size)=true):=by
  intro q;rw[ak,ak]at q;have g:((qf items.size 0 lo:Nat):Int)=0:=eq_of_beq q.1.1;have f:qf items.size items.size i-qf items.size 0 lo=items.size:=eq_of_beq q.2;exact hw ⟨by omega,by omega⟩
 show wpAny _ _ (if (((qf items.size 0 lo:Nat):Int)==0&&(1:Int)==1&&(qf items.size items.size i-qf items.size 0 lo)==items.size)=true then _ else _) _ _ s;rw[aj o,DO]
 first
  |exact cu (m:=Builtin.Tuple.tupleExact _) (wpAny_newObj_type (cw ⟨_,rfl,cw h⟩) H)
  |exact cu (m:=Builtin.Tuple.tupleExact _) (wpAny_newObj_type (cu (cw (cw ⟨_,rfl,cw h⟩))) H)
  |exact cu (cu (m:=Builtin.Tuple.tupleExact _) (wpAny_newObj_type (cw (cw ⟨_,rfl,cw h⟩)) H))
  |exact cu (cu (m:=Builtin.Tuple.tupleExact _) (wpAny_newObj_type (cw ⟨_,rfl,cw h⟩) H))
end
end HT
namespace L2
open PySem PySem.Spec PyProof.Rows
abbrev TO:=St->Hp->(Option Int->Hp->Prop)->Prop
def PO (X:Cx)(e:Option Expr)(t:TO):Prop:=
 ∀(pins:b6)(s:Shared)(σ:St)(H:Hp)(Q:Option Int->Hp->Prop),Inv X pins σ H s->t σ H Q->
  wpAny (model X.prog X.w) X.A (evalPart e X.env) (λu S=>∃o h,Inv X pins σ h S/\IsPart u o/\Q o h) X.xe s
noncomputable def BE:TO:=λ_ H Q=>Q none H
noncomputable def dR (t:TE):TO:=λσ H Q=>t σ H λx H1=>∃i,x=.int i/\Q (some i) H1
def intsAre_of:∀{us:b4},Vals (ns.map V.int) us->IntsAre us ns:=by
 induction ns with
 |nil=>intro us r;rw[map_nil]at r;cases r;exact .nil|cons n ns i=>
  intro us r;rw[aF]at r;cases r with
  |cons b a=>
   obtain⟨t,e⟩:=b;subst e;exact .cons n t (i a)
section
variable {te:TE}{lo hi:Option Expr}{tl th:TO}{p2:Pos}
def AO:PO X none BE:=by
 intro pins s σ H Q I h;rw[evalPart_none];exact cw ⟨none,H,I,.none,h⟩
def Bn (h:PE X e te):PO X (some e) (dR te):=by
 intro pins s σ H Q I hw;rw[evalPart_some];refine zU (h pins s σ H _ I hw) λu s1 ⟨x,H1,b,r,a⟩=>?_;obtain⟨i,rfl,q⟩:=a;obtain⟨t,rfl⟩:=r;exact⟨some i,H1,b,.int i t,q⟩
def KG (X:Cx)(r:V->Option Int->Option Int->Hp->VK->Prop):Prop:=
 ∀(pins:b6)(s:Shared)(σ:St)(H:Hp)(x:V)(v l u:Value)(lo hi:cf)(S:Addr)(Q:VK),Inv X pins σ H s->RelV x v->s.heap.IsSliceOf S l u .none->IsPart l lo->IsPart u hi->r x lo hi H Q->
  ∃T id,typeLookup (.type T) "__getitem__"=pure (some (.builtin id))/\s.TypeIs v T/\wpAny (model X.prog X.w) X.A (getItem v (.ref S)) (EP X pins σ Q) X.xe s
noncomputable def dS (r:V->Option Int->Option Int->Hp->VK->Prop)(e:TE)(t T:TO):TE:=λσ H Q=>e σ H λx H1=>t σ H1 λl a=>T σ a λu h=>r x l u h Q
def Ck {r:V->Option Int->Option Int->Hp->VK->Prop}(n:KG X r)(he:PE X e te)(o:PO X lo tl)(m:PO X hi th):PE X (.Subscript e (.Slice lo hi none p2) pos) (dS r te tl th):=by
 intro pins s σ H Q I h;refine Subscript_ (zU (he pins s σ H _ I h) λv s1 ⟨x,H1,C,f,j⟩=>?_);refine wpAny_Slice (zU (o pins s1 σ H1 _ C j) λc s2 ⟨l,D,B,p,i⟩=>zU (m pins s2 σ D _ B i) λa s3 ⟨u,d,z,pu,g⟩=>?_);rw[evalPart_none];refine cw ?_;have y:Inv X pins σ d { s3 with heap:=s3.heap.push { cls:=.type "slice",data:=.fields #[c,a,.none] } }:=z.kept (t':=s3.toks) λb ob q=>ae _ q
 obtain⟨T,id,hT,ht,t⟩:=n pins { s3 with heap:=s3.heap.push { cls:=.type "slice",data:=.fields #[c,a,.none] } } σ d x v c a l u s3.heap.objs.size Q y f (Heap.IsSliceOf.new ..) p pu g
 show wpAny (model X.prog X.w) X.A (subscriptTail e (.Slice lo hi none p2) v (.ref s3.heap.objs.size)) (EP X pins σ Q) X.xe { s3 with heap:=s3.heap.push { cls:=.type "slice",data:=.fields #[c,a,.none] } }
 exact tail_any (ops:=[.ref s3.heap.objs.size,v]) ht hT t (by with_unfolding_all rfl)
noncomputable def gN (xs:List V)(lo h:cf):List V:=(xs.drop (HT.qf xs.length 0 lo)).take (HT.qf xs.length xs.length h-HT.qf xs.length 0 lo)
def Rn (xs:List V)(lo h:cf):(gN xs lo h).length<=xs.length:=by
 unfold gN;rw[bY,bZ];omega
def dU (K:Frag):V->Option Int->Option Int->Hp->VK->Prop:=λx lo h H Q=>∃a xs,x=.ref a/\qw K H a xs/\
 ¬(HT.qf xs.length 0 lo=0/\HT.qf xs.length xs.length h=xs.length)/\∀p,H p=none->Q (.ref p) (upd H p (.tup (gN xs lo h)))
def dV:KG X (dU X.K):=by
 intro pins s σ H x v l u lo c S Q I d f p pu h;obtain⟨a,xs,rfl,e,hw,q⟩:=h;cases d;obtain⟨i,r,ht,z⟩:=I.tuple e;have hlen:i.toArray.size=xs.length:=by rw[aA];exact r.length.symm
 refine⟨"tuple",_,PyProof.Rows.slot_tuple_getitem.lookup,ht.typeIs,?_⟩;refine HT.L6 ht f p pu (by rw[hlen];exact hw) ?_ (by rw[hlen];exact z)
 rw[hlen];refine⟨.ref s.heap.objs.size,_,I.laid (t':=s.toks) (o:=.tup (gN xs lo c)) (λb ob q=>ae _ q) (ao _) ?_,rfl,q _ (I.hok.fresh (ao _))⟩;exact⟨bw (Rn xs lo c) z,_,(r.drop (HT.qf xs.length 0 lo)).take (HT.qf xs.length xs.length c-HT.qf xs.length 0 lo),ZI.new _ _⟩
noncomputable def MU (K:Frag):R2:=λx y H Q=>∃a b ns ms,x=.ref a/\y=.ref b/\qw K H a (ns.map V.int)/\qw K H b (ms.map V.int)/\Q (.bl (HT.lexLt ns ms)) H
def dW (l:X.A.units<cLine):qG X (compareOp .Lt) (MU X.K):=by
 intro pins s σ H x y v u Q I d r h;obtain⟨a,b,ns,ms,rfl,rfl,n,m,q⟩:=h;cases d;cases r;obtain⟨c,f,P,_⟩:=I.tuple n;obtain⟨i,e,p,_⟩:=I.tuple m;have j:IntsAre c.toArray.toList ns:=intsAre_of f;have g:IntsAre i.toArray.toList ms:=intsAre_of e;exact HT.Ry P p j g l ⟨.bl (HT.lexLt ns ms),H,I,rfl,q⟩
def Mh (K:Frag):R2:=λx y H Q=>∃a b xs Y,x=.ref a/\y=.ref b/\qw K H a xs/\qw K H b Y/\xs≠[]/\xs.length+Y.length<=sizeLine/\
 (Y=[]->Q (.ref a) H)/\(Y≠[]->∀p,H p=none->Q (.ref p) (upd H p (.tup (xs++Y))))
def Vals.nil_iff {xs:List V}(r:Vals xs us):us=[]↔xs=[]:=by
 cases r with
 |nil=>simp|cons _ _=>simp
def AL:qG X (binaryOp .Add) (Mh X.K):=by
 intro pins s σ H x y v u Q I f e h;obtain⟨a,b,xs,Y,rfl,rfl,t,n,m,d,j,g⟩:=h;cases f;cases e;obtain⟨l,c,P,_⟩:=I.tuple t;obtain⟨i,r,p,_⟩:=I.tuple n;refine HT.AF P p (λz=>m (c.nil_iff.mp z)) (λz=>⟨.ref a,H,I,rfl,j (r.nil_iff.mp z)⟩) (λz=>?_) (by rw[<- c.length,<- r.length];exact d)
 refine⟨.ref s.heap.objs.size,_,I.laid (t':=s.toks) (o:=.tup (xs++Y)) (λb ob q=>ae _ q) (ao _) ?_,rfl,g (λw=>z (r.nil_iff.mpr w)) _ (I.hok.fresh (ao _))⟩;exact⟨by rw[aB];exact d,_,c.append r,ZI.new _ _⟩
end
noncomputable def gq (n:Nat)(i:Int):Option Nat:=if 0<=i then(if i<n then some i.toNat else none) else if -(n:Int)<=i then some (i+n).toNat else none
def wj (xs:List α)(i:Int):Option α:=(gq xs.length i).bind λj=>xs[j]?
def OK {i:Int}{j:Nat}(h:gq n i=some j):seqIndex? i n=some j/\j<n/\-(n:Int)<=i/\i<n:=by
 unfold gq at h
 by_cases h0:0<=i
 ·rw[ah h0]at h
  by_cases h1:i<n
  ·rw[ah h1]at h
   have e:i.toNat=j:=aC h;exact⟨by rw[seqIndex_of h0 h1,e],by omega,by omega,h1⟩
  ·rw[aj h1]at h;cases h
 ·rw[aj h0]at h
  by_cases h1:-(n:Int)<=i
  ·rw[ah h1]at h
   have e:(i+n).toNat=j:=aC h;exact⟨by rw[seqIndex_neg (by omega) h1,e],by omega,h1,by omega⟩
  ·rw[aj h1]at h;cases h
def Vv {xs:List α}{i:Int}{v:α}(h:wj xs i=some v):∃j,seqIndex? i xs.length=some j/\xs[j]? =some v/\j<xs.length/\-(xs.length:Int)<=i/\i<xs.length:=by
 unfold wj at h;cases e:gq xs.length i with
 |none=>rw[e]at h;cases h|some j=>
  rw[e]at h;obtain⟨c,b,a,H⟩:=OK e;exact⟨j,c,h,b,a,H⟩
def WO {xs:List α}{j:Nat}{v:α}(h:xs[j]? =some v):wj xs (j:Int)=some v:=by
 have H:j<xs.length:=(cA.mp h).1;have e:gq xs.length (j:Int)=some j:=by
  unfold gq;rw[ah (by omega),ah (by omega)];simp
 unfold wj;rw[e];exact h
def Nf (b:Expr):Prop:=∀o i,subscripted b false o i=operate [o,i] (getItem o i)
def Z2 (X:Cx)(r:R2):Prop:=
 ∀(value slice:Expr)(pins:b6)(s:Shared)(σ:St)(H:Hp)(x y:V)(v u:Value)(Q:VK),Inv X pins σ H s->RelV x v->RelV y u->r x y H Q->
  subscripted slice false v u=operate [v,u] (getItem v u)->wpAny (model X.prog X.w) X.A (subscriptTail value slice v u) (EP X pins σ Q) X.xe s
def KP (X:Cx)(id:String)(r:V->List V->Hp->VK->Prop):Prop:=
 ∀(pins:b6)(s:Shared)(σ:St)(H:Hp)(x:V)(xs:List V)(v:Value)(us:b4)(Q:VK),Inv X pins σ H s->RelV x v->Vals xs us->r x xs H Q->
  wpAny (model X.prog X.w) X.A (call (.builtin id) (v::us)) (EP X pins σ Q) X.xe s
section
variable {a b:Expr}{ta tb:TE}
def Z2.or {r c:R2}(h:Z2 X r)(h':Z2 X c):Z2 X (λx y H Q=>r x y H Q∨c x y H Q):=by
 intro value slice pins s σ H x y v u Q I b a q d;rcases q with q|q
 ·exact h value slice pins s σ H x y v u Q I b a q d
 ·exact h' value slice pins s σ H x y v u Q I b a q d
def dX {r:R2}(f:Z2 X r)(i:PE X a ta)(g:PE X b tb)(e:Nf b):PE X (.Subscript a b pos) (KI r ta tb):=by
 intro pins s σ H Q I h;exact Subscript_ (UA i g I h λv u s2 x y l j d c q=>f a b pins s2 σ l x y v u Q j d c q (e _ _))
def MW (K:Frag):R2:=λx y H Q=>∃p xs i v,x=.ref p/\y=.int i/\qC K H p xs/\wj xs i=some v/\Q v H
def MN (K:Frag):R2:=λx y H Q=>∃p xs i v,x=.ref p/\y=.int i/\qw K H p xs/\wj xs i=some v/\Q v H
def MH:R2:=λx y H Q=>∃z i c,x=.str z/\y=.int i/\z.length<=sizeLine/\wj z.cps.toList i=some c/\Q (.str ⟨#[c]⟩) H
def BV:Z2 X (MW X.K):=by
 intro value slice pins s σ H x y v u Q I g f h e;obtain⟨p,xs,i,z,rfl,rfl,l,he,q⟩:=h;cases g;obtain⟨t,rfl⟩:=f;obtain⟨c,r,P,B⟩:=I.list l;obtain⟨j,a,A,C,o,n⟩:=Vv he;obtain⟨w,E,b⟩:=r.get A;have m:=r.length;have hn:=J0;have fin:EP X pins σ Q w s:=⟨z,H,I,b,q⟩
 by_cases h0:0<=i
 ·have d:i.toNat=j:=by
   rw[seqIndex_of h0 n]at a;exact aC a
  exact item_listR P.isList h0 (by omega) (by rw[d];simpa using E) fin e
 ·have d:(i+(c.toArray.size:Int)).toNat=j:=by
   rw[seqIndex_neg (by omega) o]at a
   rw[aA,<- m];exact aC a
  exact subscriptTail_builtinR (x:=w) P.isList.typeIs slot_list_getitem.lookup
   (wpAny_getItem_list_neg (Q:=λr S=>r=w/\EP X pins σ Q r S) P.isList (by omega) (by rw[aA]<;>omega) (by omega) (by rw[d];simpa using E) ⟨rfl,fin⟩) e
def dY:Z2 X (MN X.K):=by
 intro value slice pins s σ H x y v u Q I c b h e;obtain⟨p,xs,i,z,rfl,rfl,f,he,q⟩:=h;cases c;obtain⟨t,rfl⟩:=b;obtain⟨d,r,P,n⟩:=I.tuple f;obtain⟨j,m,g,B,A,o⟩:=Vv he;obtain⟨w,E,a⟩:=r.get g;have l:=r.length;have hn:=J0;have fin:EP X pins σ Q w s:=⟨z,H,I,a,q⟩;exact subscriptTail_builtinR (x:=w) P.typeIs slot_tuple_getitem.lookup
  (getItem_tuple (j:=j) (Q:=λr S=>r=w/\EP X pins σ Q r S) P (by omega) (by omega) (by rw[aA,<- l];exact m) (by simpa using E) ⟨rfl,fin⟩) e
def dZ:Z2 X MH:=by
 intro value slice pins s σ H x y v u Q I b r h d;obtain⟨z,i,c,rfl,rfl,n,he,q⟩:=h;obtain⟨t,rfl⟩:=b;obtain⟨t',rfl⟩:=r;obtain⟨j,a,g,o,f,e⟩:=Vv he;have l:z.cps.toList.length=z.length:=by simp[Str.length]
 rw[l]at a f e;have hn:=J0;exact tail_any (typeIs_str s z t) slot_str_getitem.lookup (getItem_str (c:=c) (by
  have m:decide (i < -(2 ^ 63:Int))=false:=ax (by omega)
  have E:decide (i ≥ 2 ^ 63)=false:=ax (by omega)
  rw[m,E,Bool.or_false]) (by rw[a];simpa using g) ⟨.str ⟨#[c]⟩,H,I.tok _,⟨_,rfl⟩,q⟩) d
def Lf (K:Frag):R2:=λx y H Q=>MW K x y H Q∨MN K x y H Q∨MH x y H Q
def d1:Z2 X (Lf X.K):=BV.or (dY.or dZ)
def F0 (i:b4)(n j:Nat)(u:Value):Obj.mapSeq (·.setIfInBounds j u) { cls:=.type "list",data:=.seq i.toArray n }={ cls:=.type "list",data:=.seq (i.set j u).toArray n }:=by
 simp[Obj.mapSeq]
theorem Inv.lst {pins:b6}{σ:St}{H:Hp}{s:Shared}{p:Addr}{xs:List V}(I:Inv X pins σ H s)(h:H p=some (.lst xs)):
  ∃(i:b4) (n:Nat),Vals xs i/\s.heap.get? p=some { cls:=.type "list",data:=.seq i.toArray n }/\xs.length<=sizeLine:=by
 obtain⟨z,i,n,r,e⟩:=I.hok p _ h;exact⟨i,n,r,e,z⟩
def Inv.lstUpd {p:Addr}{xs:List V}{its':b4}{N:Nat}{f:Obj->Obj}(I:Inv X pins σ H s)(h:H p=some (.lst xs))
  (o:s.heap.get? p=some { cls:=.type "list",data:=.seq its.toArray n })(hf:f { cls:=.type "list",data:=.seq its.toArray n }={ cls:=.type "list",data:=.seq its'.toArray N })(r:Vals ys its')(z:ys.length<=sizeLine)(t:Nat):
  Inv X pins σ (upd H p (.lst ys)) { s with heap:=s.heap.update p f,toks:=t }:=by
 have e:(s.heap.update p f).get? p=some { cls:=.type "list",data:=.seq its'.toArray N }:=by
  rw[bc f o (by rw[hf]<;>rfl),hf]
 refine I.write (x:=p) (e:=p) (by rw[h];trivial) (.inl rfl) (λb u a q=>(aR _ _ (Ne.symm a)).trans q) ⟨_,e⟩ ?_
 exact⟨z,its',N,r,e⟩
def Mb:V->V->V->Hp->(Hp->Prop)->Prop:=λo i v H Q=>∃p xs k j,o=.ref p/\i=.int k/\H p=some (.lst xs)/\gq xs.length k=some j/\Q (upd H p (.lst (xs.set j v)))
def set_list:Kl X Mb:=by
 intro pins s σ H o i v y A u Q I ro ri w h;obtain⟨p,xs,k,j,rfl,rfl,e,x,q⟩:=h;cases ro;obtain⟨t,rfl⟩:=ri;obtain⟨a,n,r,c,z⟩:=I.lst e;obtain⟨b,B,g,f⟩:=OK x;have l:=r.length;have hn:=J0;have m:Inv X pins σ (upd H p (.lst (xs.set j v))) { s with heap:=s.heap.update p (Obj.mapSeq (·.setIfInBounds j u)) }:=
  I.lstUpd e c (F0 a n j u) (r.set w j) (by rw[length_set];exact z) s.toks
 by_cases h0:0<=k
 ·have d:k.toNat=j:=by
   rw[seqIndex_of h0 f]at b;exact aC b
  exact PySem.W.ki_setAt c h0 (by omega) (by rw[aA,<- l];exact f) (by rw[d];exact⟨_,m,q⟩)
 ·have d:(k+(a.toArray.size:Int)).toNat=j:=by
   rw[seqIndex_neg (by omega) g]at b
   rw[aA,<- l];exact aC b
  exact PySem.W.ki_setBack c (by omega) (by rw[aA,<- l];exact g) (by omega) (by rw[d];exact⟨_,m,q⟩)
def HB (lo H:cf)(n:Nat):(sliceBounds lo H none n).1=((HT.qf n 0 lo:Nat):Int)/\(sliceBounds lo H none n).2.1=((HT.qf n n H:Nat):Int)/\(sliceBounds lo H none n).2.2=1:=by
 refine⟨?_,?_,rfl⟩
 ·cases lo with
  |none=>simp[sliceBounds,HT.qf]|some i=>
   simp only[sliceBounds,HT.qf,getD_none,show(1:Int) > 0 by decide,if_true]
   by_cases h:i<0
   ·simp only[h,if_true]<;>omega
   ·simp only[h,if_false]<;>omega
 ·cases H with
  |none=>simp[sliceBounds,HT.qf]|some i=>
   simp only[sliceBounds,HT.qf,getD_none,show(1:Int) > 0 by decide,if_true]
   by_cases h:i<0
   ·simp only[h,if_true]<;>omega
   ·simp only[h,if_false]<;>omega
def IT (i:b4)(lo h:cf):slicePick i.toArray lo h none=((i.drop (HT.qf i.length 0 lo)).take (HT.qf i.length i.length h-HT.qf i.length 0 lo)).toArray:=by
 obtain⟨b,a,H⟩:=HB lo h i.toArray.size;unfold slicePick;rw[b,a,H];simp only[sliceRange_one,pick_run,aA]<;>rfl
def MD (K:Frag):V->Option Int->Option Int->Hp->VK->Prop:=λx lo h H Q=>∃a xs,x=.ref a/\qC K H a xs/\∀p,H p=none->Q (.ref p) (upd H p (.lst (gN xs lo h)))
def Bq:KG X (MD X.K):=by
 intro pins s σ H x v l u lo i S Q I c f p pu h;obtain⟨a,xs,rfl,e,q⟩:=h;cases c;obtain⟨d,r,ht,z⟩:=I.list e;have hlen:=r.length;refine⟨"list",_,slot_list_getitem.lookup,ht.isList.typeIs,?_⟩;refine wpAny_getItem_list_slice ht.isList f p pu .none (by simp) ?_ (by rw[aA]<;>omega)
 rw[IT,<- hlen];refine⟨.ref s.heap.objs.size,_,I.laid (t':=s.toks) (o:=.lst (gN xs lo i)) (λb ob q=>ae _ q) (ao _) ?_,rfl,q _ (I.hok.fresh (ao _))⟩;exact⟨bw (Rn xs lo i) z,_,0,(r.drop (HT.qf xs.length 0 lo)).take (HT.qf xs.length xs.length i-HT.qf xs.length 0 lo),au _ rfl⟩
noncomputable def wb:V->Bool
 |.non=>true|.bl _=>true|.int _=>true|.str _=>true|_=>false
noncomputable def gj:V->V->Bool
 |.non,.non=>true|.bl a,.bl b=>a==b|.bl a,.int b=>(if a then 1 else 0)==b|.int a,.bl b=>a==(if b then 1 else 0)|.int a,.int b=>a==b|.str a,.str b=>a==b|_,_=>false
def d2 {A:Around}{y x:V}{v:Value}(c:RelV y u)(r:RelV x v)(d:wb y=true)(f:wb x=true):SeqAt.EqAt A s u v (gj y x):=by
 cases y with
 |non=>
  cases c;cases x with
  |non=>cases r;exact SeqAt.EqAt.same _|bl b=>cases r;exact SeqAt.EqAt.none_bool b|int b=>obtain⟨t,rfl⟩:=r;exact SeqAt.EqAt.none_int b t|str b=>obtain⟨t,rfl⟩:=r;exact SeqAt.EqAt.none_str b t|_=>exact absurd (show false=true from f) az
 |bl a=>
  cases c;cases x with
  |non=>cases r;exact SeqAt.EqAt.bool_none a|bl b=>cases r;exact SeqAt.EqAt.bool_bool a b|int b=>obtain⟨t,rfl⟩:=r;exact SeqAt.EqAt.bool_int a b t|str b=>obtain⟨t,rfl⟩:=r;exact SeqAt.EqAt.bool_str a b t|_=>exact absurd (show false=true from f) az
 |int a=>
  obtain⟨t',rfl⟩:=c;cases x with
  |non=>cases r;exact SeqAt.EqAt.int_none a t'|bl b=>cases r;exact SeqAt.EqAt.int_bool a t' b|int b=>obtain⟨t,rfl⟩:=r;exact SeqAt.EqAt.int_int a t' b t|str b=>obtain⟨t,rfl⟩:=r;exact SeqAt.EqAt.int_str a t' b t|_=>exact absurd (show false=true from f) az
 |str a=>
  obtain⟨t',rfl⟩:=c;cases x with
  |non=>cases r;exact SeqAt.EqAt.str_none a t'|bl b=>cases r;exact SeqAt.EqAt.str_bool a t' b|int b=>obtain⟨t,rfl⟩:=r;exact SeqAt.EqAt.str_int a t' b t|str b=>obtain⟨t,rfl⟩:=r;exact SeqAt.EqAt.str_str a t' b t|_=>exact absurd (show false=true from f) az
 |_=>exact absurd (show false=true from d) az
def kj (x:V)(u:Value):Bool:=match u with
 |.none=>gj .non x|.bool b=>gj (.bl b) x|.int i _=>gj (.int i) x|.str z _=>gj (.str z) x|_=>false
def VA {x y:V}(r:RelV y u)(f:wb y=true):kj x u=gj y x:=by
 cases y with
 |non=>cases r;rfl|bl b=>cases r;rfl|int i=>obtain⟨t,rfl⟩:=r;rfl|str z=>obtain⟨t,rfl⟩:=r;rfl|_=>exact absurd (show false=true from f) az
theorem YU {x:V}:∀{xs:List V}{us:b4},Vals xs us->xs.all wb=true->us.any (kj x)=xs.any λy=>gj y x
 |_,_,.nil,_=>rfl|y::xs,u::us,.cons r t,f=>by
  rw[all_cons,ak]at f;rw[bN,bN,VA r f.1,YU t f.2]
theorem JI {A:Around}{x:V}{v:Value}(a:RelV x v)(b:wb x=true):∀{xs:List V}{us:b4},Vals xs us->xs.all wb=true->∀u∈us,SeqAt.EqAt A s u v (kj x u)
 |_,_,.nil,_=>λu h=>by cases h|y::xs,u::us,.cons r t,f=>λU h=>by
  rw[all_cons,ak]at f;rcases cy.mp h with rfl|h
  ·rw[VA r f.1];exact d2 r a f.1 b
  ·exact JI a b t f.2 U h
def GD (x:V)(xs:List V):Bool:=xs.any λy=>gj y x
def UY (K:Frag)(neg:Bool):R2:=λx y H Q=>∃p xs,y=.ref p/\(qC K H p xs∨qw K H p xs)/\wb x=true/\xs.all wb=true/\Q (.bl (if neg then !GD x xs else GD x xs)) H
def EI:qG X (compareOp .In) (UY X.K false):=by
 intro pins s σ H x y v u Q I b c h;obtain⟨p,xs,rfl,a,f,fs,q⟩:=h;cases c;rcases a with a|a
 ·obtain⟨i,r,P,z⟩:=I.list a
  refine SeqAt.in_listAt (kj x) P.isList (λw hw=>JI b f r fs w (by simpa using hw)) ⟨.bl _,H,I,rfl,?_⟩
  rw[show i.toArray.any (kj x)=i.any (kj x) by simp,YU r fs]
  exact q
 ·obtain⟨i,r,P,z⟩:=I.tuple a
  refine SeqAt.in_tupleAt (kj x) P (λw hw=>JI b f r fs w (by simpa using hw)) ⟨.bl _,H,I,rfl,?_⟩
  rw[show i.toArray.any (kj x)=i.any (kj x) by simp,YU r fs]
  exact q
def HI:qG X (compareOp .NotIn) (UY X.K true):=by
 intro pins s σ H x y v u Q I b c h;obtain⟨p,xs,rfl,a,f,fs,q⟩:=h;cases c;rcases a with a|a
 ·obtain⟨i,r,P,z⟩:=I.list a
  refine SeqAt.notIn_listAt (kj x) P.isList (λw hw=>JI b f r fs w (by simpa using hw)) ⟨.bl _,H,I,rfl,?_⟩
  rw[show i.toArray.any (kj x)=i.any (kj x) by simp,YU r fs]
  exact q
 ·obtain⟨i,r,P,z⟩:=I.tuple a
  refine SeqAt.notIn_tupleAt (kj x) P (λw hw=>JI b f r fs w (by simpa using hw)) ⟨.bl _,H,I,rfl,?_⟩
  rw[show i.toArray.any (kj x)=i.any (kj x) by simp,YU r fs]
  exact q
def Hz:jN X (.builtin "len") (λxs H Q=>∃p y,xs=[.ref p]/\(qC X.K H p y∨qw X.K H p y)/\Q (.int y.length) H):=by
 intro pins s σ H xs us Q I r h;obtain⟨p,y,rfl,a,q⟩:=h;obtain⟨u,rfl,x⟩:=vals1 r;cases x;have hn:=J0;rcases a with a|a
 ·obtain⟨i,b,P,z⟩:=I.list a
  have hlen:=b.length;exact Calls.call_len_list P.isList (by simp only[aA]<;>omega) ⟨.int y.length,H,I.tok _,⟨s.toks+1,by rw[aA,hlen]⟩,q⟩
 ·obtain⟨i,b,P,z⟩:=I.tuple a
  have hlen:=b.length;exact len_tuple P (by simp only[aA]<;>omega) ⟨.int y.length,H,I.tok _,⟨s.toks+1,by rw[aA,hlen]⟩,q⟩
def Hq:jN X (.type "list") (λxs H Q=>∃p y,xs=[.ref p]/\(qC X.K H p y∨qw X.K H p y)/\∀l,H l=none->Q (.ref l) (upd H l (.lst y))):=by
 intro pins s σ H xs us Q I r h;obtain⟨p,y,rfl,d,q⟩:=h;obtain⟨u,rfl,x⟩:=vals1 r;cases x;have fin:∀(its:b4),Vals y its->y.length<=sizeLine->∀(h':Heap)(c:Nat),(∀b o',s.heap.get? b=some o'->h'.get? b=some o')->
   h'.get? s.heap.objs.size=some { cls:=.type "list",dict:=none,data:=.seq its.toArray c,slots:=#[] }->EP X pins σ Q (.ref s.heap.objs.size) { s with heap:=h' }:=λits a z h' c kp e=>
  ⟨.ref s.heap.objs.size,_,I.laid (t':=s.toks) kp (ao _) (show jI X.prog X.w _ h' _ (.lst y) from ⟨z,its,c,a,e⟩),rfl,q _ (I.hok.fresh (ao _))⟩
 rcases d with d|d
 ·obtain⟨its,a,P,z⟩:=I.list d
  have hlen:=a.length;obtain⟨o,f,g,n,hd⟩:=P.isList;exact call_list_seq p (.inl rfl) f g hd (λh' c kp e=>fin its a z h' c kp e) (by simp only[aA]<;>omega)
 ·obtain⟨its,a,P,z⟩:=I.tuple d
  have hlen:=a.length;obtain⟨o,f,g,n,hd⟩:=P;exact call_list_seq p (.inr rfl) f g hd (λh' c kp e=>fin its a z h' c kp e) (by simp only[aA]<;>omega)
def Ha:jN X (.type "tuple") (λxs H Q=>∃p y,xs=[.ref p]/\((qC X.K H p y/\∀l,H l=none->Q (.ref l) (upd H l (.tup y)))∨(qw X.K H p y/\Q (.ref p) H))):=by
 intro pins s σ H xs us Q I r h;obtain⟨p,y,rfl,h⟩:=h;obtain⟨u,rfl,x⟩:=vals1 r;cases x;rcases h with ⟨c,q⟩|⟨c,q⟩
 ·obtain⟨i,a,P,z⟩:=I.list c
  have hlen:=a.length;refine call_tuple_list P.isList (λh' kp=>?_) (by simp only[aA]<;>omega)
  have d:Inv X pins σ H { s with heap:=h' }:=I.kept (t':=s.toks) kp
  have f:Inv X pins σ (upd H h'.objs.size (.tup y)) { s with heap:=h'.push { cls:=.type "tuple",data:=.seq i.toArray } }:=
   d.laid (t':=s.toks) (λb o e=>ae _ e) (ao _) (show jI X.prog X.w _ _ _ (.tup y) from ⟨z,i,a,ZI.new _ _⟩)
  exact⟨.ref h'.objs.size,_,f,rfl,q _ (d.hok.fresh (ao _))⟩
 ·obtain⟨i,a,P,z⟩:=I.tuple c
  exact call_tuple_same P ⟨.ref p,H,I,rfl,q⟩
def GU (K:Frag)(T:String)(x:V)(H:Hp):Prop:=match x with
 |.str _=>T = "str"
 |.int _=>T = "int"
 |.ref p=>(T = "list" /\ ∃xs,qC K H p xs)∨(T = "tuple" /\ ∃o,K.lookup p=some o/\o.cls=.type "tuple" /\ o.dict=none)∨
   (T = "dict" /\ ((∃kvs,H p=some (.dK kvs))∨∃kvs,H p=some (.dT kvs)))∨(T = "set" /\ ∃S n,H p=some (.set S n))
 |_=>False
def d3 {T:String}{x:V}{v:Value}(I:Inv X pins σ H s)(r:RelV x v)(ty:GU X.K T x H):
  s.TypeIs v T/\∀a,v=.ref a->∃ob,s.heap.get? a=some ob/\ob.dict=none:=by
 cases x with
 |str z=>
  obtain⟨t,rfl⟩:=r;cases (show T = "str" from ty)
  exact⟨typeIs_str s z t,λ_ e=>nomatch e⟩
 |int i=>
  obtain⟨t,rfl⟩:=r;cases (show T = "int" from ty)
  exact⟨typeIs_int s i t,λ_ e=>nomatch e⟩
 |ref p=>
  cases r;rcases ty with ⟨rfl,xs,q⟩|⟨rfl,o,h,d,hd⟩|⟨rfl,h⟩|⟨rfl,S,n,h⟩
  ·obtain⟨b,_,P,_⟩:=I.list q
   refine⟨P.isList.typeIs,λa e=>?_⟩;cases e;obtain⟨o,n,e,c,hd,_⟩:=P;exact⟨o,e,hd⟩
  ·refine⟨⟨o,I.kIn p o h,d⟩,λa e=>?_⟩
   cases e;exact⟨o,I.kIn _ o h,hd⟩
  ·have z:∃o,s.heap.get? p=some o/\o.ExactDict:=by
    rcases h with ⟨kvs,h⟩|⟨kvs,h⟩
    ·obtain⟨_,_,_,_,o,_,_,e,ex,_⟩:=I.hok p _ h
     exact⟨o,e,ex⟩
    ·obtain⟨_,_,_,_,o,_,_,e,ex,_⟩:=I.hok p _ h
     exact⟨o,e,ex⟩
   obtain⟨o,e,ex⟩:=z;refine⟨⟨o,e,ex.1⟩,λa E=>?_⟩;cases E;exact⟨o,e,ex.2.1⟩
  ·obtain⟨o,_,_,_,e,ex,_⟩:=I.hok p _ h
   refine⟨⟨o,e,ex.1⟩,λa E=>?_⟩;cases E;exact⟨o,e,ex.2.1⟩
 |_=>exact False.elim ty
noncomputable def d4 (K:Frag)(T:String)(r:V->List V->Hp->VK->Prop)(to:TE)(t:TA):TE:=λσ H Q=>to σ H λx H1=>GU K T x H1/\t σ H1 λxs h=>r x xs h Q
variable {o:Expr}{es:cc}{to:TE}{t:TA}{name:Str}{T id:String}{r:V->List V->Hp->VK->Prop}
def Ma (p:PlainAttrs T)(slot:Slot T name id)(y:typeOf (.builtin id)=pure (.type "method_descriptor"))(hm:KP X id r)(j:PE X o to)(l:PA X (e::es) t)
  (b:attributeBase o name X.env (eval o X.env)=eval o X.env:=by rfl)
  (w:((backTo cpos (starEach (e::es) X.env)).all (λx=>!x.1)&&(backToKw cpos (keywordEach [] X.env)).all (λx=>x.1.isSome)
   && decide ((e::es).length+([]:cn).length+(if ([]:cn).isEmpty then 0 else 1)<30))=true:=by rfl)
  (a:(apos.endLine==cpos.line)=true:=by rfl)(g:starEach (e::es) X.env=(false,eval e X.env)::starEach es X.env:=by rfl)(n:(backTo cpos (starEach es X.env)).any (·.1)=false:=by rfl):
  PE X (.Call (.Attribute o name apos) (e::es) [] cpos) (d4 X.K T r to t):=by
 intro pins s σ H Q I h;refine wpAny_Call_method_late b w a rfl (zU (j pins s σ H _ I h) λv s1 ⟨x,H1,i,c,ty,f⟩=>?_);obtain⟨u,m⟩:=d3 i c ty;refine⟨T,id,p,slot,y,u,m,?_⟩;have A:=l cpos pins s1 σ H1 _ i f;rw[g]at A ⊢;refine Calls.callWith_builtin (by show(false || (backTo cpos (starEach es X.env)).any (·.1))=false;rw[n]<;>rfl) (Calls.evalArgs_plain ?_)
 exact zU A λus s2 ⟨vs,B,z,d,q⟩=>hm pins s2 σ B x vs v us Q z c d q
end
def US (X:Cx)(id:String)(r:V->List V->Hp->VK->Prop):Prop:=
 ∀(pins:b6)(s:Shared)(σ:St)(H:Hp)(x:V)(xs:List V)(v:Value)(us:b4)(Q:VK),Inv X pins σ H s->RelV x v->Vals xs us->r x xs H Q->
  wpAny (model X.prog X.w) X.A (call (.builtin id) (v::us)) (EP X pins σ Q) X.xe s
def Vals.one {x:V}(h:Vals [x] us):∃u,us=[u]/\RelV x u:=by
 cases h with
 |cons r t=>cases t;exact⟨_,rfl,r⟩
def Vals.two {x y:V}(h:Vals [x,y] us):∃u v,us=[u,v]/\RelV x u/\RelV y v:=by
 cases h with
 |cons r t=>exact(Vals.one t).elim λv e=>⟨_,v,by rw[e.1],r,e.2⟩
theorem Vals.zero:∀{us:b4},Vals [] us->us=[]
 |_,.nil=>rfl
theorem Vals.eraseIdx:∀{xs:List V}{us:b4}(i:Nat),Vals xs us->Vals (xs.eraseIdx i) (us.eraseIdx i)
 |_,_,_,.nil=>.nil|_,_,0,.cons _ t=>t|_,_,i+1,.cons r t=>.cons r (Vals.eraseIdx i t)
theorem Vals.rep {xs:List V}(h:Vals xs us):∀k:Nat,Vals (List.replicate k xs).flatten (List.replicate k us).flatten
 |0=>.nil|k+1=>by
  rw[bq,bq,aZ,aZ];exact Vals.append h (Vals.rep h k)
theorem Px:∀(l:List α)(i:Nat),(l.eraseIdx i).length<=l.length
 |[],_=>ao _|_::_,0=>le_succ _|_::r,i+1=>Nat.succ_le_succ (Px r i)
theorem foldl_rep (i:b4):∀(k:Nat)(acc:b4),
  List.foldl (λx1 x2=>x1++x2) acc.toArray (List.replicate k i.toArray)=(acc++(List.replicate k i).flatten).toArray
 |0,acc=>by simp|k+1,acc=>by
  have e:acc.toArray++i.toArray=(acc++i).toArray:=by simp
  have E:(acc++i)++(List.replicate k i).flatten=acc++(List.replicate (k+1) i).flatten:=by
   rw[bq,aZ,aU]
  rw[<- E,<- foldl_rep i k (acc++i),<- e,bq,List.foldl_cons]
section
variable {l:Addr}{xs:List V}
def Inv.lset {its':b4}{f:Array Value->Array Value}(I:Inv X pins σ H s)(c:H l=some (.lst xs))
  (e:s.heap.get? l=some { cls:=.type "list",data:=.seq its.toArray n })(hf:f its.toArray=its'.toArray)(v:Vals ys its')(h:ys.length<=sizeLine):
  Inv X pins σ (upd H l (.lst ys)) { s with heap:=s.heap.update l (Obj.mapSeq f),toks:=t' }:=by
 have q:=PySem.IsL.update e f;rw[hf]at q;refine I.write (x:=l) (e:=l) (by rw[c];exact trivial) (.inl rfl) (λB u b a=>(aR s.heap (Obj.mapSeq f) (Ne.symm b)).trans a) ⟨_,q⟩ ?_
 exact⟨h,its',_,v,q⟩
def Inv.lnew (I:Inv X pins σ H s)(v:Vals ys its)(h:ys.length<=sizeLine):
  Inv X pins σ (upd H s.heap.objs.size (.lst ys)) { s with heap:=s.heap.push { cls:=.type "list",data:=.seq its.toArray },toks:=t' }:=
 I.laid (λ_ _ q=>ae _ q) (ao _) ⟨h,its,0,v,au _ rfl⟩
theorem Inv.fresh (I:Inv X pins σ H s):H s.heap.objs.size=none:=I.hok.fresh (ao _)
def Inv.lstM (I:Inv X pins σ H s)(h:H l=some (.lst xs)):xs.length<=sizeLine/\∃(i:b4) (n:Nat),Vals xs i/\xs.length=i.length/\s.heap.get? l=some { cls:=.type "list",data:=.seq i.toArray n }:=by
 obtain⟨z,i,n,r,e⟩:=I.hok l _ h;exact⟨z,i,n,r,r.length,e⟩
def C8 (h:n<=sizeLine):Builtin.List.listTooLong n=false:=by
 unfold Builtin.List.listTooLong;exact ax (by omega)
end
section
def AD:V->List V->Hp->VK->Prop:=λx vs H Q=>∃l xs y,x=.ref l/\vs=[y]/\H l=some (.lst xs)/\xs.length<sizeLine/\Q .non (upd H l (.lst (xs++[y])))
def R6:US X "list.append" AD:=by
 intro pins s σ H x vs v us Q I b c h;obtain⟨l,xs,y,rfl,rfl,a,f,q⟩:=h;cases b;obtain⟨u,rfl,d⟩:=c.one;obtain⟨z,i,n,r,g,e⟩:=I.lstM a;refine call_meets F.slot_list_append ⟨_,e,rfl⟩ F.entry_list_append (F.args_list_append_2 _ _) (PySem.list_append l i.toArray n u (by rw[aA];omega)) ⟨e,?_⟩
 refine⟨.non,_,I.lset (its':=i++[u]) a e (by simp) (r.append (.cons d .nil)) ?_,rfl,q⟩
 rw[aB,bj];omega
def d6:V->List V->Hp->VK->Prop:=λx vs H Q=>∃l xs i k y,x=.ref l/\vs=[.int i]/\H l=some (.lst xs)/\-(2 ^ 63)<=i/\i<2 ^ 63/\seqIndex? i xs.length=some k/\xs[k]? =some y/\Q y (upd H l (.lst (xs.eraseIdx k)))
def DZ:US X "list.pop" d6:=by
 intro pins s σ H x vs v us Q I d f h;obtain⟨l,xs,i,k,y,rfl,rfl,c,A,p,o,j,q⟩:=h;cases d;obtain⟨u,rfl,g⟩:=f.one;obtain⟨t,rfl⟩:=g;obtain⟨z,a,n,r,m,e⟩:=I.lstM c;obtain⟨w,hw,b⟩:=r.get j;refine call_meets F.slot_list_pop ⟨_,e,rfl⟩ F.entry_list_pop (F.args_list_pop_2 _ _)
  (MeetsSeq.list_pop_at l a.toArray n i t k w (fitsIndex_both A p) (by rw[aA,<- m];exact o) (by rw[<- bS];exact hw) (by rw[aA];omega)) ⟨e,?_⟩
 refine⟨y,_,I.lset (its':=a.eraseIdx k) c e ?_ (r.eraseIdx k) ?_,b,q⟩
 ·show a.toArray.eraseIdxIfInBounds k=(a.eraseIdx k).toArray
  rw[List.eraseIdxIfInBounds_toArray]
 ·have:=Px xs k
  omega
def MC:R2:=λx y H Q=>∃l b xs zs,x=.ref l/\y=.ref b/\H l=some (.lst xs)/\H b=some (.lst zs)/\xs.length+zs.length<=sizeLine/\∀p,H p=none->Q (.ref p) (upd H p (.lst (xs++zs)))
def d7:qG X (binaryOp .Add) MC:=by
 intro pins s σ H x y v u Q I d c h;obtain⟨l,b,xs,zs,rfl,rfl,j,B,o,q⟩:=h;cases d;cases c;obtain⟨z,a,n,r,p,e⟩:=I.lstM j;obtain⟨Z,i,N,f,g,m⟩:=I.lstM B;refine PySem.P.add_list e m ?_ (by rw[aA,aA];omega)
 have E:a.toArray++i.toArray=(a++i).toArray:=by simp
 rw[E];exact⟨.ref _,_,I.lnew (t':=s.toks) (r.append f) (by rw[aB];omega),rfl,q _ I.fresh⟩
def M5:R2:=λx y H Q=>∃l k xs,x=.ref l/\y=.int k/\H l=some (.lst xs)/\-(2 ^ 63)<=k/\k<2 ^ 63/\xs.length * k.toNat<=sizeLine/\
 ∀p,H p=none->Q (.ref p) (upd H p (.lst (List.replicate k.toNat xs).flatten))
def len_rep (xs:List α)(k:Nat):(List.replicate k xs).flatten.length=k * xs.length:=by
 induction k with
 |zero=>simp|succ k i=>rw[bq,aZ,aB,i,succ_mul,add_comm]
def d8:qG X (binaryOp .Mult) M5:=by
 intro pins s σ H x y v u Q I f d h;obtain⟨l,k,xs,rfl,rfl,o,B,A,c,q⟩:=h;cases f;obtain⟨t,rfl⟩:=d;obtain⟨z,i,n,r,j,e⟩:=I.lstM o;have hlen:i.toArray.size * k.toNat<=sizeLine:=by rw[aA,<- j];exact c
 have p:¬i.toArray.size * k.toNat > (2 ^ 63-1)/8:=by
  have:(sizeLine:Nat)<=(2 ^ 63-1)/8:=by decide
  omega
 have b:¬(!Builtin.List.listFitsIndex k)=true:=by
  rw[fitsIndex_both B A];exact az
 have g:¬Builtin.List.listTooLong (i.toArray.size * k.toNat)=true:=by
  rw[C8 hlen];exact az
 have w:List.foldl (λx1 x2=>x1++x2) #[] (List.replicate (if i.toArray.isEmpty=true then 0 else k.toNat) i.toArray)=(List.replicate k.toNat i).flatten.toArray:=by
  have f0:∀m:Nat,List.foldl (λx1 x2=>x1++x2) #[] (List.replicate m i.toArray)=(List.replicate m i).flatten.toArray:=λm=>by
   have:=foldl_rep i m []
   rw[bx]at this;exact this
  rw[f0];cases i with
  |nil=>simp|cons a C=>rw[aj (by simp)]
 refine wpAny_binaryOp_repeat_ref (T := "list") (U := "int") (by decide) ⟨_,e,rfl⟩ (λS=>typeIs_int S k t) noFill_list_mul F.fills_int_mul F.slot_int_rmul repeat_list F.slot_int_index.lookup
  (call_meets F.slot_int_rmul (typeIs_int s k t) F.entry_int_rmul (F.args_int_rmul_2 _ _) (int___rmul___int_list k t l i.toArray n)
   ⟨e,rfl,⟨_,e,rfl⟩,call_meets F.slot_list_mul ⟨_,e,rfl⟩ F.entry_list_mul (F.args_list_mul_2 _ _) (AutoListH.list___mul___list_int_3 l i.toArray n k t b p g) ⟨e,?_⟩⟩)
 rw[w];exact⟨.ref _,_,I.lnew (t':=s.toks) (r.rep k.toNat) (by rw[len_rep,Nat.mul_comm];exact c),rfl,q _ I.fresh⟩
end
section
set_option maxRecDepth 100000 in
end
end L2
namespace Att
open PySem PySem.W PySem.Calls PyProof.Rows
def Io {P:Params}:∀(ns:b3)(vs:b4),WellAll P h vs (ns.map WData.int)->IntsAre vs ns:=by
 intro ns
 induction ns with
 |nil=>
  intro vs w;rw[map_nil]at w;cases w;exact .nil
 |cons n ns i=>
  intro vs w;rw[aF]at w;cases w with
  |cons a b=>
   cases a;exact .cons _ _ (i _ b)
def EY {l:OpenLaw}(hn:l.most=some n){P:Params}{args:List WData}{vals:b4}
  (H:l.row.toRowW.claim.pre args=true)(f:WellAll P h vals args):
  ∃a vs ns,vals=[Value.ref a]/\args=[WData.list (ns.map WData.int)]/\h.get? a=some { cls:=.type "list",data:=.seq vs.toArray }/\IntsAre vs ns/\ns.length<=n:=by
 have g:WShape.hasAll [] args [.list .int]=true:=(pre_splitW H).1;have i:l.pre.holds [] { args:=args }=true:=(pre_splitW H).2;obtain⟨d,r,rfl,s,p⟩:=hasAllW_cons g;obtain rfl:=hasAllW_nil p;obtain⟨xs,rfl,m⟩:=hasW_list s;obtain⟨ns,rfl⟩:=items_int m;have hlen:ns.length<=n:=by
  unfold OpenLaw.pre at i;have e:(WTm.not (.lt (.lit (.int (n:Int))) (.len (.arg 0)))).holds [] { args:=[.list (ns.map .int)] }=true:=by
   have e:=(holds_andW i).1;rw[hn]at e;exact e
  have c:=condW_of e (w_not (w_lt w_lit (w_len_list (w_arg rfl))));rw[ag]at c;refine Nat.le_of_not_lt λq=>?_;have Q:(n:Int)<((ns.length:Nat):Int):=by omega
  first
   |(rw[aq Q]at c;exact absurd c (by decide))
   |(simp at c;omega)
 cases f with
 |cons j w=>
  cases w;cases j with
  |list o b=>exact⟨_,_,ns,rfl,rfl,o,Io ns _ b,hlen⟩
def EK (l:OpenLaw)(args:List WData):l.row.toRowW.claim.post args (.bool true) args=true:=
 postW_of (r:=l.row.toRowW) (X:=(true==true))
  (show WShape.has [] (.bool true) .bool=true by first|rfl|decide|simp[WShape.has,WShape.arms,WShape.armsAll])
  (show(WTm.eq .res (.lit (.bool true))).value [] { args:=args,res:=some (.bool true),after:=args }=some (.bool (true==true)) from w_eq_bool (w_res rfl) w_lit) rfl
def Fj {l:OpenLaw}{q:Program}{loose:b9}{XP:(cg)->Heap->Prop}{d:DefRec}
  (hn:l.most=some n)(i:d.params.defaults=[])
  (call:∀(w:World)(S s:Shared)(mg mb:cg)(b:Addr)(o:Obj)(pm cd doc:Value)(a:Addr)(vs:b4)(ns:b3),
   Ground q loose [] XP w S mg mb s.heap->YP w s.heap->
   s.heap.get? b=some o->o.data=.func (docDef d.name d.params d.body d.scope pm cd doc)->s.heap.CodeRec cd d.name->mg d.name=some (.ref b)->
   s.heap.get? a=some { cls:=.type "list",data:=.seq vs.toArray }->IntsAre vs ns->ns.length<=n->s.gens=#[]->
   codeAny (model l.prog w) callerA (.call (.ref b) ⟨[.ref a],[]⟩) (λr c=>r=.ok (.ret (.bool true))/\OldK s.heap c.heap/\c.os=s.os/\AllBare c.gens) s):
  WalkO q loose XP YP l.row.toRowW d [] (λf vs=>PySem.call f vs):=by
 intro w S s mg mb G Y b o pm cd doc B kV t hd j D g v args vals as h y m e u;obtain rfl:B=.none:=Dflts.none D i;obtain rfl:kV=.none:=Dflts.noKw D;obtain⟨a,vs,ns,rfl,rfl,H,hints,hlen⟩:=EY hn h e;refine enter_call (codeAny_mono (call w S s mg mb b o pm cd doc a vs ns G Y t (fd_plain hd) j g H hints hlen v) λr c p=>?_);obtain⟨rfl,A,z,x⟩:=p;exact⟨.inl ⟨.bool true,.bool true,[],rfl,λ_=>rfl,.bool true,EK l _,λ_=>⟨List.Pairwise.nil,λ_ hm=>(nomatch hm)⟩⟩,A,z,x⟩
end Att
namespace L2
open PySem PySem.Spec PyProof.Rows
theorem YE:∀{vs:b4}{ns:b3},IntsAre vs ns->Vals (ns.map V.int) vs
 |_,_,.nil=>.nil|_,_,.cons n t h=>.cons ⟨t,rfl⟩ (YE h)
def Gs (H:Hp):Prop:=∀b,H b=none∨∃o xs,H b=some (.frz o (.lst xs))
def DN {K:Frag}{mb:cg}{CX:wM}{k:Nat}{E:Addr}{sp:Sp}{S:Shared}
  (Y:K.In S.heap)(j:S.heap.Ns mainGlobals mg)(c:S.heap.Ns builtinsNs mb)(D:∀x:Str,x ≠ "__name__" -> mb x=bootBuiltins x)(p:S.heap.NoLimit)(hg:S.gens=#[])
  (y:S.heap.get? a=some { cls:=.type "list",data:=.seq vs.toArray })(M:IntsAre vs ns)(L:ns.length<=sizeLine)(hr:jx k callerA)
  (F:∀base:Heap,K.In base->base.Ns mainGlobals mg->yR P w K mg base CX k E fd [x] sp)(g:∀(s:Shared)(u:Value),BindsTo s fd ⟨[u],[]⟩ [(x,u)])
  (B:∀H:Hp,Gs H->qC K H a (ns.map V.int)->sp [.ref a] H (λv _=>v=.bl true) λ_ _ _=>False)
  (X:∀H e f,CX [] H S (λ_ _ _=>False) e f->False):
  codeAny (model P w) callerA (.call (.ref E) ⟨[.ref a],[]⟩) (λr f=>r=.ok (.ret (.bool true))/\OldK S.heap f.heap/\f.os=S.os/\AllBare f.gens) S:=by
 have J:=YE M;have l:=M.length;have core:∀H:Hp,Gs H->qC K H a (ns.map V.int)->jE P w H S.heap->(∀b,H b≠none->b=a)->(H a≠none->K.lookup a=none)->
   codeAny (model P w) callerA (.call (.ref E) ⟨[.ref a],[]⟩) (λr f=>r=.ok (.ret (.bool true))/\OldK S.heap f.heap/\f.os=S.os/\AllBare f.gens) S:=by
  intro H Q hS hok T hK;have base_of:∀{b:Addr}{o:Obj},S.heap.get? b=some o->H b=none->(ZV S.heap H).get? b=some o:=λe n=>DC e n;have A:∀{b:Addr}{o:Obj}{es:Array DictEntry}{ep:Nat},S.heap.get? b=some o->o.data=.dict es ep->H b=none:=λ {b o es ep} e d=>by
   cases q:H b with
   |none=>rfl|some u=>
    have I:b=a:=T b (by rw[q];simp)
    subst I;rw[y]at e;cases e;have d':Data.seq vs.toArray _=Data.dict es ep:=d;cases d'
  have N:∀{b:Addr}{m:cg},S.heap.Ns b m->(ZV S.heap H).Ns b m:=λ {b m} ⟨o,es,ep,e,d,r⟩=>⟨o,es,ep,base_of e (A e d),d,r⟩;have t:K.In (ZV S.heap H):=λb o e=>base_of (Y b o e) (by
   cases q:H b with
   |none=>rfl|some u=>
    have I:b=a:=T b (by rw[q];simp)
    subst I;rw[hK (by rw[q];simp)]at e;cases e)
  have hM:Mod K mg (ZV S.heap H):=⟨t,N j,⟨mb,N c,D⟩,let ⟨mc,h1,h2⟩:=p;⟨mc,N h1,h2⟩⟩
  have e0:Gm P w K mg (ZV S.heap H) callerA [] S H:=⟨rfl,hM,λb o e=>BN e,Nat.le_of_eq (EC _ _),trivial,λb c=>absurd (show b∈([]:b5) from c) (by simp),hok,.of_eq hg⟩
  refine codeAny_mono ((F _ t (N j)).run callerA [] S H ⟨[.ref a],[]⟩ [.ref a] [.ref a] _ _ hr e0 (g S (.ref a)) (.cons rfl .nil) (B H Q hS)) λr f h=>?_;cases r with
  |error e=>exact(X H e f h).elim|ok fl=>
   cases fl with
   |next=>exact False.elim h|brk=>exact False.elim h|cont=>exact False.elim h|ret u=>
    obtain⟨v,H',os,bare,un,i,r',q⟩:=h;have q':v=.bl true:=q;subst q';obtain rfl:u=Value.bool true:=r';refine⟨rfl,OldK.of_keep λb o e=>?_,os,bare⟩;cases q:H b with
    |none=>exact un.keep b o e q (by intro z;exact absurd (show b∈([]:b5) from z) (by simp)) (by simp)|some u=>
     rcases Q b with z|⟨ob,xs,z⟩
     ·rw[q]at z;cases z
     ·have z2:=un.frzs b ob _ z
      obtain⟨U,_⟩:=hok b _ z;obtain⟨e2,_⟩:=i b _ z2;rw[e]at U;cases U;exact e2
 cases C:K.lookup a with
 |some o=>
  have e:=Y a o C;rw[y]at e;cases e;refine core (λ_=>none) (λ_=>.inl rfl) (.inr ⟨_,vs.toArray,_,C,rfl,rfl,rfl,by rw[aA,l];exact L,by simpa using J⟩) (λb u z=>by have Z:(none:Option HO)=some u:=z;cases Z) (λb z=>absurd rfl z) λz=>absurd rfl z
 |none=>
  refine core (λb=>if b=a then some (.frz { cls:=.type "list",data:=.seq vs.toArray } (.lst (ns.map V.int))) else none) (λb=>?_) (.inl (.inr ⟨{ cls:=.type "list",data:=.seq vs.toArray },ah rfl⟩)) (λb u z=>?_) (λb z=>?_) λ_=>C
  ·by_cases c:b=a
   ·exact .inr ⟨_,_,ah c⟩
   ·exact .inl (aj c)
  ·by_cases c:b=a
   ·have Z:=(ah c).symm.trans z
    cases Z;subst c;exact⟨y,by rw[ag];exact L,vs,_,J,y⟩
   ·have Z:=(aj c).symm.trans z
    cases Z
  ·by_cases c:b=a
   ·exact c
   ·exact absurd (aj c) z
noncomputable abbrev Lo {K:Frag}(_:K.In h):Frag:=K
def Aa {l:PySem.W.OpenLaw}{k:Nat}{q:Program}{loose:b9}{XP:(cg)->Heap->Prop}{d:DefRec}{K:Params->Frag}{CX:World->wM}{sp:World->Sp}
  (hn:l.most=some n)(m:n<=sizeLine)(t:d.params.defaults=[])(A:jx k callerA)
  (E:∀(w:World)(h:Heap),YP w h->(K w.params).In h)
  (F:∀(w:World)(mg:cg)(c:Addr)(h:Heap),(K w.params).In h->h.Ns mainGlobals mg->mg d.name=some (.ref c)->
   ∃fd:FuncData,(∀(s:Shared)(u:Value),BindsTo s fd ⟨[u],[]⟩ [(x,u)])/\
    ∀base:Heap,(K w.params).In base->base.Ns mainGlobals mg->yR l.prog w (K w.params) mg base (CX w) k c fd [x] (sp w))
  (p:∀(w:World)(H:Hp)(a:Addr)(ns:b3),ns.length<=n->Gs H->qC (K w.params) H a (ns.map V.int)->sp w [.ref a] H (λv _=>v=.bl true) λ_ _ _=>False)
  (X:∀(w:World)(H:Hp)(s:Shared)(e:Value)(i:Shared),CX w [] H s (λ_ _ _=>False) e i->False):
  PySem.W.WalkO q loose XP YP l.row.toRowW d [] (λf vs=>PySem.call f vs):=by
 refine Att.Fj hn t λw y S mg mb c o pm cd doc a vs ns G Y M hd C r j hints hlen B=>?_;have z:=E w _ Y;obtain⟨fd,D,L⟩:=F w mg c _ z G.T.g r;exact DN z G.T.g G.T.b G.T.builtins G.T.nolimit B j hints (bw hlen m) A L D (λH J I=>p w H a ns hlen J I) λH e i=>X w H S e i
noncomputable def JU (s:Stmt):Arguments:=match s with
 |.FunctionDef _ a _ _ _ _ _ _ _ _=>a|_=>{ posonlyargs:=[],args:=[],vararg:=none,kwonlyargs:=[],kw_defaults:=[],kwarg:=none,defaults:=[] }
noncomputable def ZD (s:Stmt):cq:=match s with
 |.FunctionDef _ _ b _ _ _ _ _ _ _=>b|_=>[]
noncomputable def qu (s:Stmt):Scope:=match s with
 |.FunctionDef _ _ _ _ _ _ sc _ _ _=>sc|_=>{ kind:=.function,names:=[],isGenerator:=false,isCoroutine:=false }
noncomputable abbrev gp:wM:=λ_ _ _ _ _ _=>False
noncomputable abbrev E0:XK:=λ_ _ _=>False
def d9:Passes gp X E0:=λ_ _ _ _ _ _ _ h=>h.elim
structure Zt (K:Frag)(x qual:Str)(st:Stmt)(f:Addr)(fd:FuncData):Prop where
 ex:∃(oc:Value) (od:cp) (kV doc pm:Value) (an:cp) (cdv ct:Value) (osl:Array (b8)),
  fd=fnOf x qual (JU st) (ZD st) (qu st) .none kV doc pm an cdv ct/\K.lookup f=some ⟨oc,od,.func fd,osl⟩/\codeIn K cdv qual=true
 kp:keepIn K (.ref f)=true
section
variable {K:Frag}
def Zt.ok {qual:Str}{st:Stmt}{f:Addr}{k:Nat}{sp:Sp}(F:Zt K x qual st f fd)(S:qL N ps (qu st))(len:∀vs H Q E,sp vs H Q E->vs.length=ps.length)
  (y:∀(c:Value)(A:Around)(outer:ck)(s:Shared)(H:Hp)(vs:List V)(Q:VK)(E:XK),jx k (A.deeper (envOfC qual (qu st) s.heap.objs.size f c))->sp vs H Q E->
   ∃t,yS (Qy gp P w K mg base N qual (qu st) f c A outer s H E).nox (ZD st) t/\t { nx:=λ_ a=>Q .non a,rt:=Q } (start N vs) H):yR P w K mg base gp (k+1) f fd ps sp:=by
 obtain⟨e,b,kV,doc,pm,an,c,ct,o,rfl,l,d⟩:=F.ex;refine dP l d S len λA outer s H vs Q E r p=>?_;obtain⟨t,h,q⟩:=y c A outer s H vs Q E r p;exact⟨t,h.nox,q⟩
def Zt.binds {qual:Str}{st:Stmt}{f:Addr}(F:Zt K x qual st f fd)
  (h:∀(kV doc pm:Value)(an:cp)(c ct:Value)(us:b4),us.length=ps.length->bindArgs (fnOf x qual (JU st) (ZD st) (qu st) .none kV doc pm an c ct) ⟨us,[]⟩=pure (ps.zip us)):Binds K fd ps []:=by
 obtain⟨a,d,kV,doc,pm,an,c,ct,o,rfl,l,H⟩:=F.ex;exact .all (h kV doc pm an c ct)
def ed {qual:Str}{st:Stmt}{f:Addr}{a:Value}{o an:cp}{kV doc pm C ct:Value}(l:K.lookup f=some ⟨a,o,.func (fnOf x qual (JU st) (ZD st) (qu st) .none kV doc pm an C ct),osl⟩)
  (c:codeIn K C qual=true)(k:keepIn K (.ref f)=true):Zt K x qual st f (fnOf x qual (JU st) (ZD st) (qu st) .none kV doc pm an C ct):=⟨⟨a,o,kV,doc,pm,an,C,ct,osl,rfl,l,c⟩,k⟩
end
def Mq {A:Around}{k:Nat}(h:jx k A):A.units+1<cLine:=bT (Nat.add_le_add_left (by decide:1<=64) _) h.units
section
variable {κ:Type}[DecidableEq κ]
noncomputable def yP (kvs:List (κ×V))(k:κ):Option V:=(kvs.find? λK=>decide (K.1=k)).map (·.2)
noncomputable def putK (kvs:List (κ×V))(k:κ)(v:V):List (κ×V):=
 if (kvs.any λK=>decide (K.1=k))=true then kvs.map (λK=>if K.1=k then(K.1,v) else K) else kvs++[(k,v)]
def WA {p:κ×V}{r:List (κ×V)}{k:κ}(e:p.1=k):yP (p::r) k=some p.2:=by simp[yP,find?_cons,e]
def Wr {p:κ×V}{r:List (κ×V)}{k:κ}(e:¬p.1=k):yP (p::r) k=yP r k:=by simp[yP,find?_cons,e]
theorem Ve (k:κ):∀kvs:List (κ×V),(kvs.any λK=>decide (K.1=k))=(yP kvs k).isSome
 |[]=>rfl|p::r=>by
  rw[bN]
  by_cases e:p.1=k
  ·simp only[WA e,aq e,Bool.true_or,isSome_some]
  ·rw[Wr e,ax e,Bool.false_or];exact Ve k r
def Wb (kvs:List (κ×V))(k:κ)(v:V):(putK kvs k v).length<=kvs.length+1:=by
 unfold putK
 split
 ·rw[ag];omega
 ·rw[aB,aN,bE];omega
def Dt {kvs:List (κ×V)}{k:κ}(v:V)(h:yP kvs k=none):putK kvs k v=kvs++[(k,v)]:=by
 unfold putK;rw[Ve,h];exact aj (by decide)
def gL.isSome_eq {o:Option V}{u:b8}(r:gL o u):o.isSome=u.isSome:=by
 cases o with
 |none=>cases u with
  |none=>rfl|some _=>exact(show False from r).elim
 |some _=>cases u with
  |none=>exact(show False from r).elim|some _=>rfl
def KV.val {kvs:List (κ×V)}{vs:List (κ×Value)}(r:KV kvs vs)(k:κ):gL (yP kvs k) (valueAt vs k):=by
 unfold KV at r
 induction r with
 |nil=>exact True.intro|@cons p q ps qs h t i=>
  obtain⟨H,a⟩:=h
  by_cases e:p.1=k
  ·have E:q.1=k:=H.symm.trans e
   have b:valueAt (q::qs) k=some q.2:=by simp[valueAt,find?_cons,E]
   rw[WA e,b];exact a
  ·have E:¬q.1=k:=λz=>e (H.trans z)
   have b:valueAt (q::qs) k=valueAt qs k:=by simp[valueAt,find?_cons,E]
   rw[Wr e,b];exact i
theorem KV.any {kvs:List (κ×V)}{vs:List (κ×Value)}(r:KV kvs vs)(k:κ):(kvs.any λK=>decide (K.1=k))=vs.any λK=>decide (K.1=k):=by
 unfold KV at r
 induction r with
 |nil=>rfl|cons h t i=>rw[bN,bN,i,h.1]
def KV.repl {kvs:List (κ×V)}{vs:List (κ×Value)}(r:KV kvs vs)(k:κ){y:V}(a:RelV y u):
  KV (kvs.map λK=>if K.1=k then(K.1,y) else K) (vs.map λK=>if K.1=k then(K.1,u) else K):=by
 unfold KV at r ⊢
 induction r with
 |nil=>exact .nil|@cons p q ps qs h t i=>
  rw[aF,aF];refine .cons ?_ i;obtain⟨H,b⟩:=h
  by_cases e:p.1=k
  ·rw[ah e,ah (H.symm.trans e)];exact⟨H,a⟩
  ·rw[aj e,aj (λz=>e (H.trans z))];exact⟨H,b⟩
def KV.put {kvs:List (κ×V)}{vs:List (κ×Value)}(r:KV kvs vs)(k:κ){y:V}(a:RelV y u):KV (putK kvs k y) (stored vs k u):=by
 unfold putK stored;rw[r.any k]
 by_cases e:(vs.any λK=>decide (K.1=k))=true
 ·rw[ah e,ah e];exact r.repl k a
 ·rw[aj e,aj e];exact Paired.snoc r ⟨rfl,a⟩
theorem KV.length {kvs:List (κ×V)}{vs:List (κ×Value)}(r:KV kvs vs):kvs.length=vs.length:=Paired.length r
end
def Kj {k:Key}(r:RelV (kV k) u):(yk P w).is k u=true:=by
 cases k with
 |inl i=>obtain⟨t,e⟩:=(show ∃t,u=Value.int i t from r);subst e;exact HL P w i t|inr x=>obtain⟨t,e⟩:=(show ∃t,u=Value.str x t from r);subst e;exact Fi P w x t
theorem R5:∀{ks:List Key}{us:b4},Vals (ks.map kV) us->ItemsAre (yk P w) ks us
 |[],_,r=>by rw[map_nil]at r;cases r;exact .nil|k::ks,_,r=>by
  rw[aF]at r;cases r with
  |cons h t=>exact .cons (Kj h) (R5 t)
abbrev KT (H:Hp):List (List Key×V)->List (List Key×Addr×Value)->Prop:=Paired λp q=>p.1=q.1/\H q.2.1=some (.tup (p.1.map kV))/\RelV p.2 q.2.2
def KT.val (r:KT H kvs xs)(k:List Key):gL (yP kvs k) ((atKey xs k).map (·.2)):=by
 induction r with
 |nil=>exact True.intro|@cons p q ps qs h t i=>
  obtain⟨a,_,c⟩:=h
  by_cases e:p.1=k
  ·have E:q.1=k:=a.symm.trans e
   have b:atKey (q::qs) k=some q.2:=by simp[atKey,find?_cons,E]
   rw[WA e,b];exact c
  ·have E:¬q.1=k:=λz=>e (a.trans z)
   have b:atKey (q::qs) k=atKey qs k:=by simp[atKey,find?_cons,E]
   rw[Wr e,b];exact i
def KT.repl (r:KT H kvs xs)(k:List Key){y:V}(c:RelV y u):
  KT H (kvs.map λK=>if K.1=k then(K.1,y) else K) (xs.map (putAt k u)):=by
 induction r with
 |nil=>exact .nil|@cons p q ps qs h t i=>
  rw[aF,aF];refine .cons ?_ i;obtain⟨a,b,d⟩:=h;unfold putAt
  by_cases e:p.1=k
  ·rw[ah e,ah (a.symm.trans e)];exact⟨a,b,c⟩
  ·rw[aj e,aj (λz=>e (a.trans z))];exact⟨a,b,d⟩
def KT.put (r:KT H kvs xs)(k:List Key){y:V}(h:H b=some (.tup (k.map kV)))(a:RelV y u):
  KT H (putK kvs k y) (storedH xs k b u):=by
 have e:(kvs.any λK=>decide (K.1=k))=(atKey xs k).isSome:=by
  rw[Ve,(r.val k).isSome_eq,Option.isSome_map]
 unfold putK storedH;rw[e]
 by_cases q:(atKey xs k).isSome=true
 ·rw[ah q,ah q];exact r.repl k a
 ·rw[aj q,aj q];exact Paired.snoc r ⟨rfl,h,a⟩
def KT.keeps {h:Hp}(r:KT H kvs xs)(ht:∀b y,H b=some (.tup y)->h b=some (.tup y)):KT h kvs xs:=
 Paired.mapP r λ_ _ z=>⟨z.1,ht _ _ z.2.1,z.2.2⟩
section
def Mc {u:HO}(ok:jE P w H h)(e:Rd H a u):jI P w H h a u:=e.ok ok
def Ut {kvs:List (Key×V)}(ok:jE P w H h)(e:Rd H a (.dK kvs)):kvs.length<=sizeLine/\(a==sysModules)=false/\∃vs,KV kvs vs/\h.DictOf (yk P w) a vs:=
 show jI P w H h a (.dK kvs) from Mc ok e
def W9 {kvs:List (Key×V)}(ok:jE P w H h)(e:H a=some (.dK kvs)):kvs.length<=sizeLine/\(a==sysModules)=false/\∃vs,KV kvs vs/\h.DictOf (yk P w) a vs:=Ut ok (.inl e)
def VZ {ks:List Key}(ok:jE P w H h)(e:H a=some (.tup (ks.map kV))):(tupleKind (yk P w)).is h ks a:=by
 obtain⟨_,i,r,o,d,c,n,b⟩:=(show jI P w H h a (.tup (ks.map kV)) from ok a _ e)
 exact⟨o,i.toArray,n,d,c.1,b,by simpa using R5 r⟩
def V8 (ok:jE P w H h)(e:Rd H a (.dT kvs)):kvs.length<=sizeLine/\(a==sysModules)=false/\
  ∃xs,KT H kvs xs/\h.DictOfH (tupleKind (yk P w)) a xs:=by
 obtain⟨z,y,xs,r,o,E,s,n,j,g,f,d⟩:=(show jI P w H h a (.dT kvs) from Mc ok e)
 refine⟨z,y,xs,r,o,E,s,n,j,g,f,λx b=>?_,d⟩;have all:∀{l:List (List Key×V)}{m:List (List Key×Addr×Value)},KT H l m->∀x∈m,(tupleKind (yk P w)).is h x.1 x.2.1:=by
  intro l m q
  induction q with
  |nil=>intro x b;exact nomatch b
  |@cons p q ps qs c t i=>
   intro x b;rcases cy.mp b with e|b
   ·subst e
    exact VZ ok (by rw[<- c.1];exact c.2.1)
   ·exact i x b
 exact all r x b
def eg (ok:jE P w H h)(e:H a=some (.dT kvs)):kvs.length<=sizeLine/\(a==sysModules)=false/\
  ∃xs,KT H kvs xs/\h.DictOfH (tupleKind (yk P w)) a xs:=V8 ok (.inl e)
end
def Yf (H:Hp)(a:Addr)(y:V)(r:Option V):Prop:=
 (∃kvs k,Rd H a (.dK kvs)/\y=kV k/\r=yP kvs k)∨∃kvs k b,Rd H a (.dT kvs)/\y=.ref b/\H b=some (.tup (k.map kV))/\r=yP kvs k
def Gw (H:Hp)(a:Addr)(y v:V)(h:Hp):Prop:=
 (∃kvs k,H a=some (.dK kvs)/\y=kV k/\kvs.length<sizeLine/\h=upd H a (.dK (putK kvs k v)))∨
 ∃kvs k b,H a=some (.dT kvs)/\y=.ref b/\H b=some (.tup (k.map kV))/\kvs.length<sizeLine/\h=upd H a (.dT (putK kvs k v))
theorem Yf.k {kvs:List (Key×V)}{k:Key}(e:H a=some (.dK kvs)):Yf H a (kV k) (yP kvs k):=.inl ⟨kvs,k,.inl e,rfl,rfl⟩
theorem Gw.k {kvs:List (Key×V)}{k:Key}(e:H a=some (.dK kvs))(h:kvs.length<sizeLine):Gw H a (kV k) v (upd H a (.dK (putK kvs k v))):=.inl ⟨kvs,k,e,rfl,h,rfl⟩
section
variable {y:V}{r:Value}{o:Option V}{A:Around}
def Inv.big (I:Inv X pins σ H s):sysModules<s.heap.objs.size:=by
 have h:mainGlobals<s.heap.objs.size:=(I.mod.glob.keeps I.bk).lt;exact lt_trans (by decide) h
def E2 (j:A.units+1<cLine)(I:Inv X pins σ H s)(g:Yf H a y (some v))(i:RelV y u)(h:∀c S,Inv X pins σ H S->RelV v c->Q c S):
  wpAny (model X.prog X.w) A (getItem (.ref a) u) Q E s:=by
 rcases g with ⟨kvs,k,e,f,l⟩|⟨kvs,k,b,e,f,n,l⟩
 ·subst f
  obtain⟨z,hd,vs,rel,D⟩:=Ut I.hok e;obtain⟨c,hw,r⟩:=gL.some_of (v:=v) (o:=valueAt vs k) (by rw[l];exact rel.val k)
  exact wpAny_getItem_of (Kj i) D.mapOf hw (h c _ (I.tok _) r)
 ·subst f
  cases (show u=Value.ref b from i)
  obtain⟨z,hd,xs,rel,D⟩:=V8 I.hok e;obtain⟨c,hw,r⟩:=gL.some_of (v:=v) (o:=(atKey xs k).map (·.2)) (by rw[l];exact rel.val k)
  obtain⟨p,m,d⟩:=Option.map_eq_some_iff.mp hw;refine wpAny_getItem_heap (tupleKind_room_in1 j) (VZ I.hok n) D m ?_;rw[d];exact h c _ (I.tok _) r
def WK {ob:HO}(I:Inv X pins σ H s)(m:KL (H a))(h:Heap.SameBut a s.heap h')(he:∃q,h'.get? a=some q)(new:jI X.prog X.w (upd H a ob) h' a ob):
  Inv X pins σ (upd H a ob) { s with heap:=h',toks:=t' }:=
 I.write (x:=a) (e:=a) m (.inl rfl) (λb q c z=>(h.2 b c).trans z) he new
def VC {H:Hp}{kvs:List (Key×V)}{vs:List (Key×Value)}(z:kvs.length<=sizeLine)(hd:(a==sysModules)=false)(rel:KV kvs vs)(d:h'.DictOf (yk P w) a vs):
  jI P w H h' a (.dK kvs):=⟨z,hd,vs,rel,d⟩
def EM {C:Hp}{Q:Unit->Shared->Prop}(J:A.units+1<cLine)(I:Inv X pins σ H s)(g:Gw H a y v C)(p:RelV y u)(t:RelV v r)(h:∀S,Inv X pins σ C S->Q () S):
  wpAny (model X.prog X.w) A (setItem (.ref a) u r) Q E s:=by
 rcases g with ⟨kvs,k,e,n,l,o⟩|⟨kvs,k,b,e,n,B,l,o⟩
 ·subst n o
  obtain⟨z,hd,vs,rel,D⟩:=W9 I.hok e;have i:vs.length<=sizeLine:=by rw[<- rel.length];exact z
  have m:(putK kvs k v).length<=sizeLine:=by have:=Wb kvs k v;omega
  refine wpAny_setItem_pairs (hsz:=i) (Kj p) D λh' d j=>h _ ?_;have he:∃q,h'.get? a=some q:=let ⟨q,_,_,f,_⟩:=d;⟨q,f⟩
  exact WK I (by rw[e];exact True.intro) j he (VC m hd (rel.put k t) d)
 ·subst n o
  cases (show u=Value.ref b from p)
  obtain⟨z,hd,xs,rel,D⟩:=eg I.hok e;have i:xs.length<=sizeLine:=by rw[<- Paired.length rel];exact z
  have m:(putK kvs k v).length<=sizeLine:=by have:=Wb kvs k v;omega
  refine wpAny_setItem_heap (hsz:=i) (tupleKind_room_in1 J) (VZ I.hok B) D λh' d j=>h _ ?_;obtain⟨q,P,T,f,N,M,L,_,K⟩:=d;refine WK I (by rw[e];exact True.intro) j ⟨q,f⟩ ⟨m,hd,_,(rel.put k B t).keeps λc Y x=>?_,q,P,T,f,N,M,L,K⟩
  rw[qx (Mr x e (λz=>nomatch z))];exact x
end
def Uz (i:Expr):Prop:=∀o I,subscripted i false o I=operate [o,I] (getItem o I)
def Ah {prog:Program}{A:Around}{value slice:Expr}{T id:String}
  (l:typeLookup (.type T) "__getitem__"=pure (some (.builtin id)))(e:Uz slice)
  (h:wpAny (model prog w) A (eval value env) (λo b=>wpAny (model prog w) A (eval slice env) (λi S=>S.TypeIs o T/\wpAny (model prog w) A (getItem o i) Q E S) E b) E s):
  wpAny (model prog w) A (eval (.Subscript value slice pos) env) Q E s:=by
 refine Subscript_ (wpAny_mono h (λo b d=>wpAny_mono d (λi S H=>?_) λ_ _ x=>x) λ_ _ x=>x);obtain⟨hT,H⟩:=H;unfold subscriptTail;refine cu ?_;rw[getitemInPython_of_ne hT.not_modules];refine cu (wpAny_specialOf hT l ?_);have fin:wpAny (model prog w) A (subscripted slice false o i) (λr a=>wpAny (model prog w) A (letTemporaryGo value o r >>= λ_=>pure r) Q E a) E S:=by
  rw[e o i];exact wpAny_operating (wpAny_mono H (λr a c=>cu (wpAny_letTemporaryGo (cw c))) λ_ _ x=>x)
 first
  |exact cw (cu fin)
  |exact cu (cw (cu fin))
  |exact cu fin
def Fe {y:V}{o:Option V}(I:Inv X pins σ H s)(g:Yf H a y o):s.TypeIs (.ref a) "dict":=by
 rcases g with ⟨kvs,k,e,_,_⟩|⟨kvs,k,b,e,_,_,_⟩
 ·obtain⟨_,_,vs,_,d⟩:=Ut I.hok e
  exact d.typeIs
 ·obtain⟨_,_,xs,_,d⟩:=V8 I.hok e
  exact d.typeIs
noncomputable def eh (td ty:TE):TE:=λσ H Q=>td σ H λx H1=>ty σ H1 λy h=>∃a v,x=.ref a/\Yf h a y (some v)/\Q v h
section
variable {o i:Expr}{td ty:TE}
def AB (f:X.A.units+1<cLine)(l:PE X o td)(m:PE X i ty)(j:Uz i):PE X (.Subscript o i pos) (eh td ty):=by
 intro pins s σ H Q I h;refine Ah PySem.F.slot_dict_getitem.lookup j (zU (l pins s σ H _ I h) λu s1 ⟨x,H1,p,d,e⟩=>zU (m pins s1 σ H1 _ p e) λz s2 ⟨y,t,b,c,a,v,ex,g,q⟩=>?_);subst ex;obtain rfl:u=Value.ref a:=d;exact⟨Fe b g,E2 f b g c λw s3 n r=>⟨v,t,n,r,q⟩⟩
end
def P4 (h:Heap)(b:sysModules<h.objs.size):jI P w H (h.push { cls:=.type "dict",data:=.dict #[] }) h.objs.size (.dK []):=
 ⟨bR _,beq_eq_false_iff_ne.mpr (Ne.symm (aM b)),[],.nil,Heap.DictOf.new h⟩
def ej:TE:=λ_ H Q=>∀p,H p=none->Q (.ref p) (upd H p (.dK []))
section
def DW:PE X (.Dict [] [] pos) ej:=λpins s σ H Q I h=>
 wpAny_Dict_empty ⟨.ref s.heap.objs.size,_,I.laid (a:=s.heap.objs.size) (o:=.dK []) (t':=s.toks) (λ_ _ q=>ae _ q) (ao _) (P4 s.heap I.big),rfl,h _ (I.hok.fresh (ao _))⟩
end
noncomputable def VE:List (TE×TE)->St->Hp->(List (V×V)->Hp->Prop)->Prop
 |[],_,H,Q=>Q [] H|(tk,t)::r,σ,H,Q=>tk σ H λx H1=>t σ H1 λy a=>VE r σ a λp h=>Q ((x,y)::p) h
abbrev VV:List (V×V)->List (Value×Value)->Prop:=Paired λp q=>RelV p.1 q.1/\RelV p.2 q.2
def GA (X:Cx)(pos:Pos)(keys:List (Option Expr))(values:cc)(t:List (TE×TE)):Prop:=
 ∀(pins:b6)(s:Shared)(σ:St)(H:Hp)(Q:List (V×V)->Hp->Prop),Inv X pins σ H s->VE t σ H Q->
  wpAny (model X.prog X.w) X.A (evalPairs (pairTrees keys values X.env pos)) (λvs S=>∃p h,Inv X pins σ h S/\VV p vs/\Q p h) X.xe s
def B7:GA X pos [] [] []:=λpins s σ H Q I h=>pairTrees_nil_walk ⟨[],H,I,.nil,h⟩
def DP {k v:Expr}{ks:List (Option Expr)}{vs:cc}{tk T:TE}{t:List (TE×TE)}(f:PE X k tk)(d:PE X v T)(e:GA X pos ks vs t):
  GA X pos (some k::ks) (v::vs) ((tk,T)::t):=λpins s σ H Q I h=>
 pairTrees_cons_walk (zU (f pins s σ H _ I h) λu s1 ⟨x,H1,j,a,c⟩=>zU (d pins s1 σ H1 _ j c) λw s2 ⟨y,m,g,r,b⟩=>
  zU (e pins s2 σ m _ g b) λws s3 ⟨p,l,i,rel,q⟩=>⟨(x,y)::p,l,i,.cons ⟨a,r⟩ rel,q⟩)
def Ka (kvs more:List (Key×V)):List (Key×V):=more.foldl (λacc K=>putK acc K.1 K.2) kvs
def KV.merge:∀{more:List (Key×V)}{rs:List (Key×Value)}{kvs:List (Key×V)}{vs:List (Key×Value)},KV more rs->KV kvs vs->KV (Ka kvs more) (merged vs rs):=by
 intro more rs kvs vs r;unfold KV at r
 induction r generalizing kvs vs with
 |nil=>intro q;exact q|@cons p q ps qs h t i=>
  intro a;have e:KV (putK kvs p.1 p.2) (stored vs q.1 q.2):=by
   have:=a.put p.1 h.2
   rw[<- h.1];exact this
  exact i e
theorem Sd:∀(more kvs:List (Key×V)),(Ka kvs more).length<=kvs.length+more.length
 |[],kvs=>by show kvs.length<=kvs.length+0;omega|p::r,kvs=>by
  have H:=Sd r (putK kvs p.1 p.2);have h:=Wb kvs p.1 p.2;show(Ka (putK kvs p.1 p.2) r).length<=_;rw[aN];omega
theorem RQ:∀{kvs:List (Key×V)}{ws:List (Value×Value)},VV (kvs.map λK=>(kV K.1,K.2)) ws->∃rs,Carries (yk P w) ws rs/\KV kvs rs
 |[],_,r=>by rw[map_nil]at r;cases r;exact⟨[],True.intro,.nil⟩|p::kvs,_,r=>by
  rw[aF]at r;cases r with
  |@cons a b as bs h t=>
   obtain⟨rs,c,q⟩:∃rs,Carries (yk P w) _ rs/\KV _ rs:=RQ t;obtain⟨d,B⟩:=b;exact⟨(p.1,B)::rs,⟨Kj h.1,rfl,c⟩,.cons ⟨rfl,h.2⟩ q⟩
def eu (t:List (TE×TE)):TE:=λσ H Q=>∀p,H p=none->VE t σ (upd H p (.dK [])) λP h=>h p=some (.dK [])/\∃kvs:List (Key×V),P=kvs.map (λK=>(kV K.1,K.2))/\kvs.length<=15/\Q (.ref p) (upd h p (.dK (Ka [] kvs)))
def Bv {keys:List (Option Expr)}{values:cc}{t:List (TE×TE)}(h:GA X pos keys values t)(l:keys.all (·.isSome)=true)(p:keys.length=values.length)(h0:keys≠[])
  (b:keys.length<=15):PE X (.Dict keys values pos) (eu t):=by
 intro pins s σ H Q I q;have hn:=I.hok.fresh (ao s.heap.objs.size);have x:=I.laid (a:=s.heap.objs.size) (o:=.dK []) (h':=s.heap.push { cls:=.type "dict",data:=.dict #[] }) (t':=s.toks) (λ_ _ q=>ae _ q) (ao _) (P4 s.heap I.big);refine wpAny_Dict_walk (knd:=yk X.prog X.w) l p h0 b (zU (h pins _ σ _ _ x (q _ hn)) λws s2 ⟨y,A,i,rel,e,kvs,E,L,g⟩=>?_);subst E;obtain⟨rs,c,r⟩:=RQ (P:=X.prog) (w:=X.w) rel;obtain⟨z,hd,v,f,D⟩:=W9 i.hok e;cases f;refine⟨rs,c,D,λh' d m=>⟨.ref s.heap.objs.size,_,?_,rfl,g⟩⟩;have j:(Ka [] kvs).length<=sizeLine:=by
  have u:=Sd kvs [];rw[bE]at u;rw[sizeLine_eq];omega
 have he:∃q,h'.get? s.heap.objs.size=some q:=let ⟨q,_,_,n,_⟩:=d;⟨q,n⟩
 exact WK i (by rw[e];exact True.intro) m he (VC j hd (r.merge .nil) d)
noncomputable def gF (env:Env):List (Str×NameKind)->List (Str×Addr)->List (Str×Addr)
 |[],acc=>acc|(n,k)::r,acc=>gF env r (if k==.free then(n,(env.cells.lookup n).getD 0)::acc else acc)
def C3 (f:Str×NameKind->List (Str×Addr)->Sem (ForInStep (cm)))
  (hf:∀n k r,f (n,k) r=if (k==NameKind.free)=true then(do let c <- cellOf env n;pure (ForInStep.yield ((n,c)::r))) else pure (ForInStep.yield r)):
  ∀(names:List (Str×NameKind))(acc:cm),(∀y∈names,y.2=.free->∃c,env.cells.lookup y.1=some c)->(forIn names acc f:Sem (cm))=pure (gF env names acc):=by
 intro names
 induction names with
 |nil=>intro acc _;rfl|cons y r i=>
  intro acc b;obtain⟨n,k⟩:=y;rw[forIn_cons,hf];unfold gF;have h:=i (if k==.free then(n,(env.cells.lookup n).getD 0)::acc else acc) (λy g=>b y (aw _ g))
  by_cases a:k=.free
  ·subst a
   obtain⟨c,d⟩:=b (n,.free) ay rfl;have e:cellOf env n=pure c:=by unfold cellOf;rw[d]
   have H:List.lookup n env.cells=some c:=d;simp only[e,H,Option.getD_some,bG,if_true]at h ⊢;exact h
  ·have j:(k==NameKind.free)=false:=by simpa using a
   simp only[j,ba,if_false]at h ⊢;exact h
def FQ (h:∀y∈scope.names,y.2=.free->∃c,env.cells.lookup y.1=some c):closureFor scope env=pure (gF env scope.names []):=by
 unfold closureFor;dsimp only;rw[C3 _ (λn k r=>rfl) scope.names [] h]
 rfl
theorem JE {n:Str}{c:Addr}:∀(names:List (Str×NameKind))(acc:cm),(n,c)∈gF env names acc->(n,c)∈acc∨((n,NameKind.free)∈names/\c=(env.cells.lookup n).getD 0)
 |[],acc,h=>.inl h|(x,k)::r,acc,h=>by
  unfold gF at h;rcases JE r _ h with h|⟨d,a⟩
  ·by_cases H:k=.free
   ·subst H
    simp only[bG,if_true]at h;rcases cy.mp h with e|h
    ·cases e;exact .inr ⟨ay,rfl⟩
    ·exact .inl h
   ·have b:(k==NameKind.free)=false:=by simpa using H
    simp only[b,ba,if_false]at h;exact .inl h
  ·exact .inr ⟨aw _ d,a⟩
theorem RC {n:Str}:∀(names:List (Str×NameKind))(acc:cm),((n,NameKind.free)∈names∨(acc.lookup n).isSome=true)->((gF env names acc).lookup n).isSome=true
 |[],acc,h=>by
  rcases h with h|h
  ·cases h
  ·exact h
 |(x,k)::r,acc,h=>by
  unfold gF;refine RC r _ ?_;rcases h with h|h
  ·rcases cy.mp h with e|h
   ·cases e
    right
    simp
   ·exact .inl h
  ·right
   by_cases H:(k==NameKind.free)=true
   ·rw[ah H,lookup_cons]
    cases a:n==x
    ·exact h
    ·rfl
   ·rw[aj H];exact h
theorem Xn {n:Str}{c:Addr}:∀(names:List (Str×NameKind))(k:Nat)(acc:cm),(n,c)∈cellsFrom k names acc->(n,c)∈acc∨(k<=c/\(n,NameKind.cell)∈names)
 |[],_,_,h=>.inl h|(x,q)::r,k,acc,h=>by
  unfold cellsFrom at h
  by_cases a:(q==NameKind.cell)=true
  ·rw[ah a]at h
   have H:q=.cell:=by simpa using a
   rcases Xn r _ _ h with h|⟨d,b⟩
   ·rcases cy.mp h with e|h
    ·cases e;subst H;exact .inr ⟨ao _,ay⟩
    ·exact .inl h
   ·exact .inr ⟨by omega,aw _ b⟩
  ·rw[aj a]at h
   rcases Xn r _ _ h with h|⟨d,b⟩
   ·exact .inl h
   ·exact .inr ⟨d,aw _ b⟩
theorem Xp:∀(names:List (Str×NameKind))(k:Nat)(acc:cm),(∀n c,(n,c)∈acc->c<k)->(∀n N c,(n,c)∈acc->(N,c)∈acc->n=N)->∀n N c,(n,c)∈cellsFrom k names acc->(N,c)∈cellsFrom k names acc->n=N
 |[],_,_,_,hi,n,N,c,h,h'=>hi n N c h h'|(x,q)::r,k,acc,l,hi,n,N,c,h,h'=>by
  unfold cellsFrom at h h'
  by_cases a:(q==NameKind.cell)=true
  ·rw[ah a]at h h'
   refine Xp r (k+1) ((x,k)::acc) (λm d hm=>?_) (λm m' d hm H=>?_) n N c h h'
   ·rcases cy.mp hm with e|hm
    ·cases e;exact bz _
    ·exact bh (l m d hm)
   ·rcases cy.mp hm with e|hm
    ·rcases cy.mp H with E|H
     ·cases e;cases E;rfl
     ·cases e;exact absurd (l m' _ H) (a5 _)
    ·rcases cy.mp H with E|H
     ·cases E;exact absurd (l m _ hm) (a5 _)
     ·exact hi m m' d hm H
  ·rw[aj a]at h h'
   exact Xp r k acc l hi n N c h h'
theorem Xi {n:Str}{c:Addr}:∀(names:List (Str×NameKind))(h:Heap)(acc:cm),(n,c)∈cellsFrom h.objs.size names acc->(n,c)∈acc∨(pushCells h names).IsCell c none
 |[],_,_,q=>.inl q|(x,k)::r,h,acc,q=>by
  unfold cellsFrom at q;unfold pushCells
  by_cases H:(k==NameKind.cell)=true
  ·rw[ah H]at q ⊢
   have:=Xi r (h.push { cls:=.type "cell",data:=.cell none }) ((x,h.objs.size)::acc) (by rw[bp];exact q)
   rcases this with z|z
   ·rcases cy.mp z with e|z
    ·cases e
     exact .inr ⟨_,pushCells_keeps r _ _ _ (au _ rfl),rfl⟩
    ·exact .inl z
   ·exact .inr z
  ·rw[aj H]at q ⊢
   exact Xi r h acc q
def L0 {A:Around}{globals:Addr}{cl:cm}{qual:Str}{Q:Env->Shared->Prop}
  (h:Q { scope,locals:=s.heap.objs.size,globals,cells:=cellsFrom (s.heap.objs.size+1) scope.names cl,qual,func:=none,code:=env.code,frame:=env.frame,builtins:=env.builtins }
   { s with heap:=pushCells (s.heap.push { cls:=.type "dict",data:=.dict #[] }) scope.names }):
  wpAny M A (newFunctionEnv scope globals cl [] qual none .none (some env)) Q E s:=by
 simp only[newFunctionEnv,isSome_some,if_true];refine cu (wpAny_alloc ?_);refine cu (wpAny_layCells _ (λname kind cells=>by cases H:kind==NameKind.cell<;>simp[H]) _ _ _ _ ?_)
 rw[show({ s with heap:=s.heap.push { cls:=.type "dict",data:=.dict #[] } }:Shared).heap.objs.size=s.heap.objs.size+1 from bp ..]
 rw[forIn_nil];exact cu (cw (cw h))
def jR (X:Cx)(N:b9)(scope:Scope)(s:Shared)(H:Hp)(fp:b5)(xe:cb):Cx where
 prog:=X.prog
 w:=X.w
 K:=X.K
 mg:=X.mg
 base:=X.base
 A:=X.A
 N:=N
 s0:=s
 H0:=H
 env:={ scope:=relabel scope X.env,locals:=s.heap.objs.size,globals:=X.env.globals,cells:=cellsFrom (s.heap.objs.size+1) scope.names (gF X.env scope.names []),qual:=X.env.qual,func:=none,code:=X.env.code,frame:=X.env.frame,builtins:=X.env.builtins }
 outer:=X.stack
 stack:=X.stack
 ex:=fp
 fn:=λx=>scope.names.lookup x==some .local || scope.names.lookup x==some .cell
 calm:=X.calm
 pn:=[]
 xe:=xe
structure Za (X:Cx)(scope:Scope):Prop where
 kind:scope.kind=.function
 nd:(scope.names.map (·.1)).Nodup
 free:∀y∈scope.names,y.2=.free->X.env.kindOf y.1=some .cell∨X.env.kindOf y.1=some .free
theorem Jv {k:α}:∀{l:List (Str×α)},(l.map (·.1)).Nodup->(x,k)∈l->l.lookup x=some k
 |(y,q)::r,nd,h=>by
  rw[aF,nodup_cons]at nd;rw[lookup_cons];rcases cy.mp h with e|h
  ·cases e;simp
  ·have ne:(x==y)=false:=by
    rw[beq_eq_false_iff_ne];intro e
    apply nd.1
    rw[<- e];exact List.mem_map_of_mem (f:=(·.1)) h
   rw[ne];exact Jv nd.2 h
def Xj {k:NameKind}(h:(relabel scope env).names.lookup x=some k):scope.names.lookup x=some k∨(k=.cell/\scope.names.lookup x=some .free/\env.kindOf x=some .cell):=by
 unfold relabel at h;dsimp only at h;generalize scope.names=names at h ⊢
 induction names with
 |nil=>cases h|cons y r i=>
  obtain⟨n,q⟩:=y;rw[aF]at h;have split:(if (q==NameKind.free&&env.scope.kind==.function&&env.kindOf n==some .cell)=true then(n,NameKind.cell) else(n,q)).1=n:=by split<;>rfl
  rw[lookup_cons]at h ⊢;dsimp only at h;rw[split]at h;cases a:x==n with
  |false=>rw[a]at h;exact i h|true=>
   rw[a]at h;have e:x=n:=aV.mp a;subst e
   by_cases H:(q==NameKind.free&&env.scope.kind==.function&&env.kindOf x==some .cell)=true
   ·rw[ah H]at h
    simp only[ak,aV]at H;cases h
    right
    exact⟨rfl,by rw[H.1.1],H.2⟩
   ·rw[aj H]at h
    left
    exact h
section
def Inv.capt (I:Inv X pins σ H s)(S:Za X scope)(h:(x,NameKind.free)∈scope.names):∃c,X.env.cells.lookup x=some c:=I.ok.has x (S.free _ h rfl)
def YJ (I:Inv X pins σ H s)(S:Za X scope){c:Addr}(h:(x,c)∈cellsFrom (s.heap.objs.size+1) scope.names (gF X.env scope.names [])):
  ((x,NameKind.free)∈scope.names/\X.env.cells.lookup x=some c/\c<s.heap.objs.size)∨((x,NameKind.cell)∈scope.names/\s.heap.objs.size<c/\∀h0:Heap,h0.objs.size=s.heap.objs.size+1->(pushCells h0 scope.names).IsCell c none):=by
 rcases Xn _ _ _ h with b|⟨b,d⟩
 ·left
  rcases JE _ _ b with z|⟨z,e⟩
  ·cases z
  ·obtain⟨C,a⟩:=I.capt S z
   rw[a]at e;have E:c=C:=e;subst E;obtain⟨v,q⟩:=I.cell x c a;exact⟨z,a,q.lt⟩
 ·right
  refine⟨d,b,λh0 f=>?_⟩;have h':=h;rw[<- f]at h';rcases Xi _ h0 _ h' with z|z
  ·exfalso
   rcases JE _ _ z with z|⟨z,e⟩
   ·cases z
   ·obtain⟨C,a⟩:=I.capt S z
    rw[a]at e;have E:c=C:=e;subst E;obtain⟨v,q⟩:=I.cell x c a;exact a5 _ (aJ (bh q.lt) b)
  ·exact z
def D6 {xe:cb}{f:St}(I:Inv X pins σ H s)(S:Za X scope)(hf:∀b∈fp,kN X pins H b)(A:∀b∈fp,b<s.heap.objs.size)(hl:f.length=N.length)
  (hs:∀(j:Nat)(x:Str)(v:V),N[j]? =some x->f[j]? =some (some v)->(x,NameKind.free)∈scope.names/\∃i:Nat,X.N[i]? =some x/\σ[i]? =some (some v)):
  Inv (jR X N scope s H fp xe) [] f H { s with heap:=pushCells (s.heap.push { cls:=.type "dict",data:=.dict #[] }) scope.names }:=by
 have M:∀b o,s.heap.get? b=some o->(pushCells (s.heap.push { cls:=.type "dict",data:=.dict #[] }) scope.names).get? b=some o:=λb o e=>pushCells_keeps _ _ _ _ (ae _ e);have hsz:(s.heap.push { cls:=.type "dict",data:=.dict #[] }).objs.size=s.heap.objs.size+1:=bp ..;have l:∀{x:Str}{c:Addr},(jR X N scope s H fp xe).env.cells.lookup x=some c->(x,c)∈cellsFrom (s.heap.objs.size+1) scope.names (gF X.env scope.names []):=λh=>PySem.mem_of_lookup h;have L:∀{x:Str},((jR X N scope s H fp xe).env.kindOf x=some .cell∨(jR X N scope s H fp xe).env.kindOf x=some .free)->∃c,(jR X N scope s H fp xe).env.cells.lookup x=some c:=λ {x} h=>by
  refine Option.isSome_iff_exists.mp (cellsFrom_some _ _ _ ?_);have two:scope.names.lookup x=some .cell∨scope.names.lookup x=some .free:=by
   rcases h with h|h
   ·rcases Xj h with z|⟨_,z,_⟩
    ·exact .inl z
    ·exact .inr z
   ·rcases Xj h with z|⟨z,_⟩
    ·exact .inr z
    ·cases z
  rcases two with z|z
  ·exact .inl z
  ·exact .inr (RC _ _ (.inl (PySem.mem_of_lookup z)))
 have exP:∀b∈fp,∀x c,(jR X N scope s H fp xe).env.cells.lookup x=some c->c≠b:=λb a x c e=>by
  rcases YJ I S (l e) with ⟨_,q,_⟩|⟨_,q,_⟩
  ·exact(hf b a).2.2.2.2.1 x c q
  ·intro z;subst z;exact a5 _ (lt_trans q (A _ a))
 refine⟨⟨I.ok.mod,S.kind,I.ok.glob,I.ok.blt,ao _,λx y c h1 J=>?_,λx h=>L h,λx c g h=>?_,I.ok.hd,I.ok.frames,.inl rfl,λb a=>⟨?_,exP b a⟩,I.bs,bw I.ok.bsz I.sz,λb o e a=>?_,λb a z=>?_,I.stack,I.stkFree⟩,
  rfl,I.bare,Un.kept M,⟨λ_=>none,?_,λj x v h1 J Y=>?_⟩,λx c e=>?_,I.fresh,λx c e=>?_,λp hp=>?_,I.hok.kept M,hl⟩
 ·refine Xp _ _ _ (λn c h=>?_) (λn n' c h h'=>?_) x y c (l h1) (l J)
  ·rcases JE _ _ h with z|⟨z,e⟩
   ·cases z
   ·obtain⟨c',D⟩:=I.capt S z
    rw[D]at e;have P:c=c':=e;subst P;obtain⟨v,q⟩:=I.cell n c D;exact bh q.lt
  ·rcases JE _ _ h with z|⟨z,e⟩
   ·cases z
   ·rcases JE _ _ h' with Z|⟨Z,P⟩
    ·cases Z
    ·obtain⟨d,hd⟩:=I.capt S z
     obtain⟨d',B⟩:=I.capt S Z;rw[hd]at e;rw[B]at P;have K:c=d:=e;have e2:c=d':=P;subst K;subst e2;exact I.ok.inj _ _ _ hd B
 ·rcases YJ I S (l h) with ⟨z,_,_⟩|⟨_,z,_⟩
  ·exfalso
   have K:=Jv S.nd z;have t:(scope.names.lookup x==some .local || scope.names.lookup x==some .cell)=true:=g;rw[K]at t;cases t
  ·exact bJ z
 ·exact aM (A b a)
 ·obtain⟨_,_,_,E,_⟩:=hf b a
  rcases E with E|E
  ·exact I.ok.noex b o e E
  ·exact absurd (aJ (aH e) (bw I.ok.bsz E)) (a5 _)
 ·obtain⟨_,J,Y,_⟩:=hf b a
  rcases cy.mp (I.stkSub b z) with e|e
  ·exact J e
  ·exact Y e
 ·exact(Heap.Ns.new s.heap (.type "dict")).keeps (pushCells_keeps _ _)
 ·obtain⟨g,i,K,e2⟩:=hs j x v h1 J
  obtain⟨m,hn,U⟩:=I.loc;have Q:Gz X.env.scope x:=.inr (S.free _ g rfl);obtain⟨u,r,lk⟩:=U i x v K e2 Q;refine⟨u,r,.inr ?_⟩;have w:(jR X N scope s H fp xe).env.kindOf x=some .cell∨(jR X N scope s H fp xe).env.kindOf x=some .free:=by
   rcases Y with z|z|z
   ·exfalso
    rcases Xj z with Z|⟨Z,_⟩
    ·rw[Jv S.nd g]at Z;cases Z
    ·cases Z
   ·exact .inl z
   ·exact .inr z
  refine⟨w,?_⟩;obtain⟨c,D⟩:=L w;refine⟨c,D,?_⟩;rcases YJ I S (l D) with ⟨_,q,_⟩|⟨q,_,_⟩
  ·rcases lk with ⟨z,_⟩|⟨_,c',C,cell⟩
   ·exfalso
    rcases S.free _ g rfl with k|k<;>(rw[k]at z;cases z)
   ·rw[q]at C;cases C
    exact cell.keeps M
  ·exfalso
   have a1:=Jv S.nd g;have a2:=Jv S.nd q;rw[a1]at a2;cases a2
 ·rcases YJ I S (l e) with ⟨_,q,_⟩|⟨_,_,q⟩
  ·obtain⟨v,z⟩:=I.cell x c q
   exact⟨v,z.keeps M⟩
  ·exact⟨_,q _ hsz⟩
 ·rcases YJ I S (l e) with ⟨_,q,_⟩|⟨_,q,_⟩
  ·exact I.freeC x c q
  ·exact I.hok.fresh (bJ q)
 ·have T:p∈([]:b6):=hp
  cases T
end
abbrev wK:=Addr->St->Hp->(St->Hp->Prop)->Prop
noncomputable def Ku (elt:Expr)(gens:List Comprehension)(sc:Scope)(pos:Pos)(d:Nat)(acc:Value)(env:Env)(k:Sem Fin):Sem Fin:=
 match gens[d+1]? with
 |some g'=>do
  let x <- eval g'.iter env
  standAt g'.iter.pos
  let x <- foldedSetIterable g'.iter env x
  let _ <- runOwn (.compStart (.ListComp elt gens sc pos) (d+1) (<- holding [x] (pyIter x)) acc env) env
  k
 |none=>do
  (do let _ <- call (.builtin "list.append") [acc,<- eval elt env])
  k
theorem AG {iter:Expr}{d:Nat}{it acc:Value}(h:gens[d]? =some ⟨tg,iter,ifs,0⟩)(H:∀g',gens[d+1]? =some g'->g'.is_async=0):
  compTurn (.ListComp elt gens sc pos) d it acc env=(do
   standAt iter.pos
   match <- pyNext it with
   |none=>pure (.done .next)|some v=>
    letOwnedTupleGo tg it v
    assign tg env v
    let mut ok:=true
    for c in ifs do
     if ok then ok <- isTrue c env (eval c env)
    if ok then Ku elt gens sc pos d acc env (again (.compLoop (.ListComp elt gens sc pos) d it acc env))
    else again (.compLoop (.ListComp elt gens sc pos) d it acc env)):=by
 unfold compTurn Ku;dsimp only;rw[h];cases hn:gens[d+1]? with
 |none=>rfl|some g'=>
  obtain⟨t',i,f,a⟩:=g';have e:a=0:=H _ hn;subst e
  rfl
def ZP (X:Cx)(ifs:cc)(t:TT):Prop:=
 ∀(pins:b6)(s:Shared)(σ:St)(H:Hp)(Q:Bool->Hp->Prop),Inv X pins σ H s->t σ H Q->
  wpAny (model X.prog X.w) X.A (forIn ifs true λc r=>if r=true then do let ok <- isTrue c X.env (eval c X.env);pure (ForInStep.yield ok) else pure (ForInStep.yield r)) (TP X pins σ Q) X.xe s
noncomputable def ew:TT:=λ_ H Q=>Q true H
def Cw:ZP X [] ew:=λpins s σ H Q I h=>wpAny_tests_nil ⟨H,I,h⟩
def Dw {c:Expr}{t:TT}(h:PT X c t):ZP X [c] t:=λpins s σ H Q I hw=>wpAny_tests_one (h pins s σ H Q I hw)
def wm (X:Cx)(elt:Expr)(gens:List Comprehension)(sc:Scope)(pos:Pos)(d:Nat)(t:wK):Prop:=
 ∀(pins:b6)(s:Shared)(σ:St)(H:Hp)(D:Addr)(Q:St->Hp->Prop)(k:Sem Fin)(Q':Fin->Shared->Prop)(E:cb),Inv X pins σ H s->t D σ H Q->
  (∀S a h,Inv X pins a h S->Q a h->wpAny (model X.prog X.w) X.A k Q' E S)->wpAny (model X.prog X.w) X.A (Ku elt gens sc pos d (.ref D) X.env k) Q' E s
def ez (t:TE):wK:=λD σ H Q=>t σ H λy H1=>∃Y,H1 D=some (.lst Y)/\Y.length<sizeLine/\Q σ (upd H1 D (.lst (Y++[y])))
def Ke (J:It)(g:TG)(ti:TT)(tm:wK):wK:=λD σ H Q=>∃W:Nat->Nat->St->Hp->Prop,(∃m,W 0 m σ H)/\∀i m σ H,W i m σ H->
 (J.stop i H/\Q σ H)∨(J.go i H/\∃N:St->Hp->Prop,(∀c h,N c h->∃m',m'<m/\W (i+1) m' c h)/\∀x h,J.yld i H x h->g x σ h λa H1=>ti a H1 λb d=>if b=true then tm D a d N else N a d)
def eA (w:TI)(g:TG)(ti:TT)(tm:wK):wK:=λD σ H Q=>w σ H λJ H1=>Ke J g ti tm D σ H1 Q
section
variable {iter:Expr}{d:Nat}
def J7 (h:∀e s,X.xe e s->False){t:Sem α}{Q':α->Shared->Prop}{S:Shared}(H:wpAny (model X.prog X.w) X.A t Q' X.xe S):wpAny (model X.prog X.w) X.A t Q' E S:=
 wpAny_mono H (λ_ _ z=>z) λe S z=>(h e S z).elim
def C9 {t:TE}(x:∀e s,X.xe e s->False)(he:PE X elt t)(g:gens[d+1]? =none):wm X elt gens sc pos d (ez t):=by
 intro pins s σ H D Q k Q' E I h b;unfold Ku;rw[g];refine cu (cu (J7 x (zU (he pins s σ H _ I h) λu s1 ⟨y,H1,f,r,Y,c,z,a⟩=>?_)));refine cu (J7 x (zU (R6 pins s1 σ H1 (.ref D) [y] (.ref D) [u] (λ_ l=>Q σ l) f rfl (.cons r .nil) ⟨D,Y,y,rfl,rfl,c,z,a⟩) λ_ s2 ⟨_,j,i,_,q⟩=>?_));exact cw (b s2 σ j i q)
def B8 {g:TG}{ti:TT}{tm:wK}(Z:∀e s,X.xe e s->False)(hc:X.calm=true)(hg:gens[d]? =some ⟨tg,iter,ifs,0⟩)(ha:∀g',gens[d+1]? =some g'->g'.is_async=0)(P:PG X tg g)(hi:ZP X ifs ti)(hm:wm X elt gens sc pos d tm)
  {Q:St->Hp->Prop}{J:It}{C:Nat->Heap->Prop}(T:Turn X.prog X.w X.K tg J fp it C)(I:Inv X pins σ H s)(st:C 0 s.heap)(hf:∀b∈fp,kN X pins H b)
  (h:Ke J g ti tm D σ H Q){R:Result->Shared->Prop}(hR:∀z a c,Inv X pins a c z->Q a c->R (.ok .next) z):
  codeAny (model X.prog X.w) X.A (.compLoop (.ListComp elt gens sc pos) d (.ref it) (.ref D) X.env) R s:=by
 obtain⟨W,⟨m0,w0⟩,turn⟩:=h;have S:∀{c:Hp},(∀b∈fp,c b=none)->∀b∈fp,kN X pins c b:=λhn b l=>⟨hn b l,(hf b l).2⟩;refine codeAny_loop rfl (λn z=>∃i a c,Inv X pins a c z/\C i z.heap/\(∀b∈fp,c b=none)/\W i n a c) (λn s3 hI=>?_) m0 ⟨0,σ,H,I,st,λb l=>(hf b l).1,w0⟩;show wpAny _ X.A ((compTurn (.ListComp elt gens sc pos) d (.ref it) (.ref D) X.env).onRaise (λx=>do noteFrame x X.env;theTreesLotGoes x)) _ _ s3
 refine wpAny_noted ?_;rw[AG hg ha];refine cu (wpAny_standAt ?_);obtain⟨i,j,E,I3,gU,B,w3⟩:=hI;rcases turn i n j E w3 with ⟨stop,qn⟩|⟨go,N,hN,step⟩
 ·refine cu (zU (T.done X rfl rfl rfl hc i pins s3 j E _ I3 (S B) gU stop) λr s4 ⟨M,I4⟩=>?_)
  subst M;exact cw (hR s4 j E I4 qn)
 ·refine cu (zU (T.item X rfl rfl rfl hc i pins s3 j E _ I3 (S B) gU go) λr s4 ⟨u,M,h4⟩=>?_)
  subst M;refine cu (zU h4 λ_ s5 ⟨x,H5,I5,r5,y5,p,U⟩=>?_);have Y:=I5.pinned (S U) (T.obj _ _ p);have back:∀{f:St}{q:Hp}{t:Shared},Inv X (pins++Y8 fp s5.heap) f q t->N f q->∃m,m<n/\∃i a c,Inv X pins a c t/\C i t.heap/\(∀b∈fp,c b=none)/\W i m a c:=λ {f q t} v n7=>by
   obtain⟨m',hm,w7⟩:=hN f q n7;refine⟨m',hm,i+1,f,q,v.unpinned,T.keep _ _ _ p λb l o e=>(v.pin (b,o) (aK _ (aK _ (Wj l e)))).1,λb l=>?_,w7⟩;obtain⟨o,e,d⟩:=T.obj _ _ p b l;exact(v.pin (b,o) (aK _ (aK _ (Wj l e)))).2.1
  refine cu (J7 Z (zU (P _ s5 j H5 x u _ Y r5 (step x H5 y5)) λ_ s6 ⟨y,H6,I6,q6⟩=>?_));refine cu (J7 Z (zU (hi _ s6 y H6 _ I6 q6) λok t ⟨q,v,L⟩=>?_));cases ok with
  |false=>exact cw ⟨rfl,back v L⟩|true=>
   rw[ah rfl]at L;exact hm _ t y q D _ _ _ _ v L λs8 σ8 H8 I8 q8=>cw ⟨rfl,back I8 q8⟩
def Mv {g:TG}{ti:TT}{tm:wK}(i:∀e s,X.xe e s->False)(m:X.calm=true)(c:gens[d]? =some ⟨tg,iter,ifs,0⟩)(o:∀g',gens[d+1]? =some g'->g'.is_async=0)(t:PG X tg g)(j:ZP X ifs ti)(hm:wm X elt gens sc pos d tm)
  {Q:St->Hp->Prop}{J:It}{n:Nat->Heap->Prop}(T:Turn X.prog X.w X.K tg J fp it n)(I:Inv X pins σ H s)(st:n 0 s.heap)(hf:∀b∈fp,kN X pins H b)
  (h:Ke J g ti tm D σ H Q){R:Result->Shared->Prop}(p:∀S a f,Inv X pins a f S->Q a f->R (.ok .next) S):
  codeAny (model X.prog X.w) X.A (.compStart (.ListComp elt gens sc pos) d (.ref it) (.ref D) X.env) R s:=by
 have loop:=B8 i m c o t j hm T I st hf h p;refine codeAny_of_tree ?_;show wpAny _ _ ((compStart (.ListComp elt gens sc pos) d (.ref it) (.ref D) X.env).onRaise (λx=>do noteFrame x X.env;standAt theWindowsPlace)) _ _ s
 refine wpAny_notedAt ?_;unfold compStart;have l:(clausesOf (.ListComp elt gens sc pos))[d]? =some ⟨tg,iter,ifs,0⟩:=c;rw[l];show wpAny _ _ (ask >>= _) _ _ s;refine cu (wpAny_askSetting (wpAny_ite ?_))
 split
 ·first
   |exact cu (cw (cw (And.intro rfl loop)))
   |exact cw (And.intro rfl loop)
 ·first
   |exact cu (wpAny_rule (cu (wpAny_standAt (cu (T.self _ 0 s _ _ st (cw (And.intro rfl loop)))))))
   |(refine cu (wpAny_rule ?_);show wpAny _ _ (standAt iter.pos >>= _) _ _ s;exact cu (wpAny_standAt (cu (T.self _ 0 s _ _ st (cw (And.intro rfl loop))))))
def C7 {w:TI}{g:TG}{ti:TT}{tm:wK}(b:∀e s,X.xe e s->False)(n:X.calm=true)(c:gens[d+1]? =some ⟨tg,iter,ifs,0⟩)(o:∀g',gens[d+2]? =some g'->g'.is_async=0)(hw:PI X tg iter w)(t:PG X tg g)(m:ZP X ifs ti)(hm:wm X elt gens sc pos (d+1) tm)
  (j:∀x,foldedSetIterable iter X.env x=pure x:=by intro _;rfl):wm X elt gens sc pos d (eA w g ti tm):=by
 intro pins s σ H D Q k Q' E I h l;unfold Ku;rw[c];refine cu (J7 b (zU (hw pins s σ H _ I h) λv s1 r=>?_));refine cu (wpAny_standAt (cu (wpAny_of_eq (j v) ?_)));refine cu (wpAny_holding (J7 b (zU r λi s2 p=>?_)));obtain⟨it,fp,A,J,B,e,u,T,gh,f2,q⟩:=p;subst e;refine cu (wpAny_runOwn (Mv b n c o t m hm T u gh f2 q λS a z y f=>?_));exact l S a z y f
end
noncomputable def Zq (nl:Nat)(cap:b7)(σ:St):St:=List.replicate nl none++cap.map λi=>(σ[i]?).join
noncomputable def Qr (M N:b9)(scope:Scope)(nl:Nat)(cap:b7):Bool:=
 N.length==nl+cap.length&&(List.range cap.length).all λk=>match N[nl+k]?,M[cap.getD k 0]? with
  |some x,some y=>x==y&&scope.names.any λz=>z.1==x&&z.2==NameKind.free|_,_=>false
def Ct {M:b9}{nl:Nat}(h:Qr M N scope nl cap=true):(Zq nl cap σ).length=N.length/\
  ∀(j:Nat)(x:Str)(v:V),N[j]? =some x->(Zq nl cap σ)[j]? =some (some v)->(x,NameKind.free)∈scope.names/\∃i:Nat,M[i]? =some x/\σ[i]? =some (some v):=by
 unfold Qr at h;rw[ak,aV]at h;obtain⟨n,m⟩:=h;refine⟨by unfold Zq;simp[n],λj x v r E=>?_⟩
 unfold Zq at E
 by_cases b:j<nl
 ·rw[ai (by simpa using b),List.getElem?_replicate]at E
  split at E<;>cases E
 ·rw[ar (by simpa using b),length_replicate,av]at E
  cases c:cap[j-nl]? with
  |none=>rw[c]at E;cases E|some i=>
   rw[c]at E;have e:(σ[i]?).join=some v:=aC E;have f:j-nl<cap.length:=(cA.mp c).1;have H:=cB.mp m (j-nl) (cx.mpr f);have p:nl+(j-nl)=j:=by omega
   rw[p,r]at H;have q:cap.getD (j-nl) 0=i:=by rw[ab,c];rfl
   rw[q]at H;cases hm:M[i]? with
   |none=>rw[hm]at H;cases H|some y=>
    rw[hm]at H;rw[ak,aV]at H;obtain⟨l,g⟩:=H;subst l;obtain⟨z,d,a⟩:=List.any_eq_true.mp g;rw[ak,aV,aV]at a;refine⟨?_,i,hm,?_⟩
    ·obtain⟨t,Z⟩:=z
     obtain⟨a1,a2⟩:=a;cases a1;cases a2;exact d
    ·cases s:σ[i]? with
     |none=>rw[s]at e;cases e|some o=>rw[s]at e;cases o with
      |none=>cases e|some w=>cases e;rfl
noncomputable abbrev yC:Value->Shared->Prop:=λ_ _=>False
def W8 (K:Frag)(w:TI)(g:TG)(ti:TT)(tm:wK)(nl:Nat)(cap:b7):TE:=λσ H Q=>w σ H λJ h=>∀D,h D=none->K.lookup D=none->Ke J g ti tm D (Zq nl cap σ) (upd h D (.lst [])) λ_ a=>Q (.ref D) a
section
variable {iter:Expr}{wi:TI}{g:TG}{ti:TT}{tm:wK}{nl:Nat}
def OA (hc:X.calm=true)(S:Za X sc)(B:Qr X.N N sc nl cap=true)(ha:∀g',gs[0]? =some g'->g'.is_async=0)(hw:PI X tg iter wi)
  
  (hin:∀s H fp,Inv X pins σ H s->(∀b∈fp,kN X pins H b)->PG (jR X N sc s H fp yC) tg g/\ZP (jR X N sc s H fp yC) ifs ti/\wm (jR X N sc s H fp yC) elt (⟨tg,iter,ifs,0⟩::gs) sc pos 0 tm)
  {Q:VK}(I:Inv X pins σ H s)(h:W8 X.K wi g ti tm nl cap σ H Q)
  {use:Option (Value->Sem Unit)}{Q':cb}
  (t:∀(D C:Addr)(l:Shared)(r:Hp)(m:cg),Inv X pins σ r l->Q (.ref D) r->l.heap.Ns C m->r C=none->C≠X.env.locals->X.s0.heap.objs.size<=C->(∀x c,X.env.cells.lookup x=some c->c≠C)->(∀q∈X.pn++pins,q.1≠C)->
   compPost (model X.prog X.w) X.A X.xe use Q' (.ref D) C (.ok .next) l)
  (hs:∀x,foldedSetIterable iter X.env x=pure x:=by intro _;rfl):
  wpAny (model X.prog X.w) X.A (comprehension (.ListComp elt (⟨tg,iter,ifs,0⟩::gs) sc pos) sc X.env p (newList []) false (eval iter X.env) use) Q' X.xe s:=by
 have j:∀y∈sc.names,y.2=.free->∃c,X.env.cells.lookup y.1=some c:=λy Z e=>I.ok.has _ (S.free y Z e);refine wpAny_comprehension_free (use:=use) rfl hs (FQ j) S.kind (λy Z e=>by
  obtain⟨y1,y2⟩:=y;have e':y2=.local:=e;subst e';exact Jv S.nd Z) ?_
 refine zU (hw pins s σ H _ I h) λv s1 h1=>zU h1 λitv s2 h2=>?_;obtain⟨it,fp,tn,J,P,e,I2,T,gh,f2,q2⟩:=h2;subst e;refine wpAny_newObj_type ?_;have hD:P s2.heap.objs.size=none:=I2.fresh;have hKD:X.K.lookup s2.heap.objs.size=none:=by
  cases ek:X.K.lookup s2.heap.objs.size with
  |none=>rfl|some o=>exact absurd (aH (I2.kIn _ _ ek)) (a5 _)
 have Y:=q2 _ hD hKD;generalize hs3:({ s2 with heap:=s2.heap.push { cls:=.type "list",data:=.seq ([]:b4).toArray } }:Shared)=s3
 have f:s3={ s2 with heap:=s2.heap.push { cls:=.type "list",data:=.seq ([]:b4).toArray } }:=hs3.symm
 have i:Inv X pins σ (upd P s2.heap.objs.size (.lst [])) s3:=by
  rw[f];exact I2.laid (t':=s2.toks) (λb u e=>ae _ e) (ao _) ⟨by simp,[],0,.nil,au _ rfl⟩
 have E:∀b∈fp,∃o,s2.heap.get? b=some o:=λb a=>let ⟨o,e,_⟩:=T.obj 0 _ gh b a;⟨o,e⟩
 have U:s3.heap.objs.size=s2.heap.objs.size+1:=by rw[f];exact bp ..
 have gU:tn 0 s3.heap:=T.keep _ _ _ gh λb a o e=>by rw[f];exact ae _ e
 have L:∀b∈fp,b<s3.heap.objs.size:=λb a=>by
  obtain⟨o,e⟩:=E b a;rw[U];exact bh (aH e)
 have M:∀b∈fp,kN X pins (upd P s2.heap.objs.size (.lst [])) b:=λb a=>by
  obtain⟨o,e⟩:=E b a;refine⟨?_,(f2 b a).2⟩;rw[qx (aM (aH e))];exact(f2 b a).1
 generalize upd P s2.heap.objs.size (.lst [])=H3 at i M Y;generalize s2.heap.objs.size=D at Y ⊢;refine L0 ?_;obtain⟨cl,cs⟩:=Ct B (σ:=σ);have I4:=D6 (xe:=yC) i S M L cl cs;obtain⟨hgt,hi,hm⟩:=hin s3 H3 fp i M;refine Mv (X:=jR X N sc s3 H3 fp yC) (gens:=⟨tg,iter,ifs,0⟩::gs) (d:=0) (λ_ _ z=>z) hc rfl ha hgt hi hm T I4 (T.keep _ _ _ gU λb a o e=>pushCells_keeps _ _ _ _ (ae _ e)) (λb a=>?_) Y λl σ' r n q'=>?_
 ·obtain⟨g1,g2,g3,g4,g5,g6⟩:=M b a
  refine⟨g1,aM (L b a),λz=>?_,.inl a,(I4.ok.exf b a).2,λp hp=>absurd (show p∈([]:b6) from hp) (by simp)⟩
  rcases cy.mp (i.stkSub b z) with e|e
  ·exact g2 e
  ·exact g3 e
 ·have I5:Inv X pins σ r l:=i.call' n.os n.base n.hok n.bare λb a=>by
   obtain⟨g1,g2,g3,g4,g5,g6⟩:=M b a;exact⟨g4,g2,g5,g6⟩
  obtain⟨m,hn,_⟩:=n.loc;refine t D _ l r m I5 q' hn n.free (bt i.lt) i.sz (λx c e z=>?_) λq hq z=>?_
  ·obtain⟨v,w⟩:=i.cell x c e
   exact a5 _ (aJ w.lt (by rw[z];exact ao _))
  ·exact a5 _ (aJ (aH (i.pin q hq).1) (by rw[z];exact ao _))
def B6 (f:X.calm=true)(S:Za X sc)(p:Qr X.N N sc nl cap=true)(j:∀g',gs[0]? =some g'->g'.is_async=0)(hw:PI X tg iter wi)
  (n:∀s H fp,PG (jR X N sc s H fp yC) tg g/\ZP (jR X N sc s H fp yC) ifs ti/\wm (jR X N sc s H fp yC) elt (⟨tg,iter,ifs,0⟩::gs) sc pos 0 tm)
  (d:∀x,foldedSetIterable iter X.env x=pure x:=by intro _;rfl):PE X (.ListComp elt (⟨tg,iter,ifs,0⟩::gs) sc pos) (W8 X.K wi g ti tm nl cap):=by
 intro pins s σ H Q I h;rw[eval_ListComp];refine OA (use:=none) f S p j hw (λs H fp _ _=>n s H fp) I h (λD C c y m w q hn v u t r l=>?_) d;exact⟨m,hn,λh' a=>⟨.ref D,y,w.turned (t':=c.toks) (λb o i e=>(a.2 b i).trans e) v u (.inr t) r l,rfl,q⟩⟩
def FV {p:Pos}{c:Pos}(T:X.N.Nodup)(l:X.N[i]? =some x)(t:X.env.scope.names.lookup x=some .local)
  (w:swapsWith (.ListComp elt (⟨tg,iter,ifs,0⟩::gs) sc pos) (some (.Name x p)) c.line X.env=pure true)
  (M:X.calm=true)(S:Za X sc)(d:Qr X.N N sc nl cap=true)(Q:∀g',gs[0]? =some g'->g'.is_async=0)(hw:PI X tg iter wi)
  (n:∀s H fp,PG (jR X N sc s H fp yC) tg g/\ZP (jR X N sc s H fp yC) ifs ti/\wm (jR X N sc s H fp yC) elt (⟨tg,iter,ifs,0⟩::gs) sc pos 0 tm)
  (J:∀x,foldedSetIterable iter X.env x=pure x:=by intro _;rfl):PS X (.Assign [.Name x p] (.ListComp elt (⟨tg,iter,ifs,0⟩::gs) sc pos) c) (Gy (W8 X.K wi g ti tm nl cap) (Gg i)):=by
 intro pins s σ H D I h;rw[exec_Assign_Name_used _ _ _ _ w];refine cu (wpAny_standAt (cu ?_));show wpAny _ X.A (do let _ <- comprehension (.ListComp elt (⟨tg,iter,ifs,0⟩::gs) sc pos) sc X.env _ (newList []) false (eval iter X.env) (some (assign (.Name x p) X.env))) _ _ s
 refine cu (wpAny_mono (OA (use:=some (assign (.Name x p) X.env)) (Q':=λ_ j=>SP X pins D .next j) M S d Q hw (λs H fp _ _=>n s H fp) I h (λB C j H' m I' q hn Z y Y u U=>?_) J) (λ_ j L=>cw (cw L)) λ_ _ e=>e);show wpAny _ X.A (assign (.Name x p) X.env (.ref B)) _ _ _;refine wpAny_assign_Name (R9 I' T l (.inl t) (v:=.ref B) rfl (λs2 I2 ⟨a,E,ea⟩=>?_) (.inr t));have r:C≠a:=by
  rcases ea with e|e
  ·rw[e];exact y
  ·exactλz=>u x a e z.symm
 refine⟨m,hn.sameBut E r,λh' f=>⟨_,H',I2.turned (t':=s2.toks) (λb o P e=>(f.2 b P).trans e) Z y (.inr Y) u U,q⟩⟩
end
end L2
namespace Mi
open PySem PySem.Spec PyProof.Rows L2
inductive W where
 |non|bl (b:Bool)|int (i:Int)|str (x:Str)|tup (xs:List W)|ref (n:Nat)
 |clo (k:Nat) (xs:List W) (P:Obj->Addr->Obj->List V->Prop)
 |xc (x:Str)
inductive O where
 |lst (xs:List W)|ro (xs:List W)|dct (kvs:List (Key×W))
 |td (kvs:List (List Int×W))
 |tr (kvs:List (List Int×W))
 |tab (q:Str) (P:Addr)
noncomputable def O.mut:O->Bool
 |.ro _=>false|.tr _=>false|_=>true
noncomputable abbrev Hx:=List O
noncomputable abbrev En:=List (Option W)
inductive R (α:Type) where
 |ok (a:α) (A:Hx)|exc (x:Str) (A:Hx)|bad
noncomputable def R.bind {β:Type}(r:R α)(f:α->Hx->R β):R β:=match r with
 |.ok a A=>f a A|.exc x A=>.exc x A|.bad=>.bad
def R.post (r:R α)(P:α->Hx->Prop)(E:Str->Hx->Prop):Prop:=match r with
 |.ok a A=>P a A|.exc x A=>E x A|.bad=>False
noncomputable def R.nox (r:R α):R α:=match r with
 |.ok a A=>.ok a A|.exc _ _=>.bad|.bad=>.bad
section
variable {β:Type}{r:R α}{f:α->Hx->R β}{P Q:α->Hx->Prop}{P':β->Hx->Prop}{E F:Str->Hx->Prop}
def zJ {a:α}{A:Hx}:(R.ok a A).bind f=f a A:=rfl
def z0:(r.bind f).post P' E↔r.post (λa A=>(f a A).post P' E) E:=by cases r<;>exact Iff.rfl
def qt (h:r.post P E)(H:∀a A,P a A->Q a A)(b:∀x A,E x A->F x A):r.post Q F:=by
 cases r with
 |ok a A=>exact H _ _ h|exc x A=>exact b _ _ h|bad=>exact h
end
abbrev Ev:=En->Hx->R W
inductive zc9 (K:Frag)(H:Hp)(R:List V->Prop)(v:V):Prop
 |mk (a:Addr) (vs:List V) (e:v=.ref a) (h:qw K H a vs) (r:R vs)
inductive zde (H:Hp)(P:Obj->Addr->Obj->List V->Prop)(R:List V->Prop)(v:V):Prop
 |mk (a:Addr) (ob:Obj) (u:HO) (c:Addr) (oc:Obj) (uc:HO) (vs:List V) (e:v=.ref a) (h1:H a=some (.frz ob u)) (h2:H c=some (.frz oc uc)) (p:P ob c oc vs) (r:R vs)
inductive zdo (R:V->Prop)(Rs:List V->Prop)(vs:List V):Prop
 |mk (v:V) (r:List V) (e:vs=v::r) (h:R v) (t:Rs r)
mutual
noncomputable def RV (K:Frag)(φ:b5)(H:Hp):W->V->Prop
 |.non,v=>v=.non|.bl b,v=>v=.bl b|.int i,v=>v=.int i|.str x,v=>v=.str x|.tup ws,v=>zc9 K H (zu K φ H ws) v|.ref n,v=>∃a,v=.ref a/\φ[n]? =some a|.clo _ ws P,v=>zde H P (zu K φ H ws) v|.xc x,v=>∃a o u C,v=.ref a/\H a=some (.frz o u)/\o.cls=.ref C/\nsIn K mainGlobals x=some (some (.ref C))
noncomputable def zu (K:Frag)(φ:b5)(H:Hp):List W->List V->Prop
 |[],vs=>vs=[]|w::ws,vs=>zdo (RV K φ H w) (zu K φ H ws) vs
end
structure Le (K:Frag)(φ:b5)(H:Hp)(φ':b5)(H':Hp):Prop where
 ex:∀(n:Nat)(a:Addr),φ[n]? =some a->φ'[n]? =some a
 tp:∀a vs,qw K H a vs->qw K H' a vs
 fr:∀a o,H a=some o->(∀n:Nat,φ[n]?≠some a)->H' a=some o
 nw:∀(n:Nat)(a:Addr),φ'[n]? =some a->φ[n]? =some a∨H a=none
 st:∀a,H' a=none->H a=none
 fz:∀a o u,H a=some (.frz o u)->H' a=some (.frz o u)
def Le.refl {K φ H}:Le K φ H φ H:=⟨λ_ _ h=>h,λ_ _ h=>h,λ_ _ h _=>h,λ_ _ h=>.inl h,λ_ h=>h,λ_ _ _ h=>h⟩
def Le.trans {K φ H φ1 H1 φ2 H2}(a:Le K φ H φ1 H1)(b:Le K φ1 H1 φ2 H2):Le K φ H φ2 H2 where
 ex:=λn x h=>b.ex n x (a.ex n x h)
 tp:=λn x h=>b.tp n x (a.tp n x h)
 fr:=λc o h n=>b.fr c o (a.fr c o h n) λk e=>by
  rcases a.nw k c e with e|e
  ·exact n k e
  ·rw[h]at e;cases e
 nw:=λn c e=>by
  rcases b.nw n c e with e|e
  ·exact a.nw n c e
  ·exact .inr (a.st c e)
 st:=λc e=>a.st c (b.st c e)
 fz:=λc o u h=>b.fz c o u (a.fz c o u h)
def Le.off {K φ H φ' H'}(l:Le K φ H φ' H'){o:HO}(h:H D=some o)(n:∀k:Nat,φ[k]?≠some D):H' D=some o/\∀k:Nat,φ'[k]?≠some D:=
 ⟨l.fr D o h n,λk e=>by
  rcases l.nw k D e with e|e
  ·exact n k e
  ·rw[h]at e;cases e⟩
section
variable {K:Frag}{φ':b5}{H':Hp}
structure Z4 (K:Frag)(φ:b5)(H:Hp)(φ':b5)(H':Hp):Prop where
 ex:∀(n:Nat)(a:Addr),φ[n]? =some a->φ'[n]? =some a
 tp:∀a vs,qw K H a vs->qw K H' a vs
 fz:∀a o u,H a=some (.frz o u)->H' a=some (.frz o u)
mutual
theorem RV.monoW (l:Z4 K φ H φ' H'):∀{w:W}{v:V},RV K φ H w v->RV K φ' H' w v
 |.non,_,h=>h|.bl _,_,h=>h|.int _,_,h=>h|.str _,_,h=>h|.tup ws,_,⟨a,vs,e,t,r⟩=>⟨a,vs,e,l.tp _ _ t,zu.monoW l r⟩|.ref n,_,⟨a,e,f⟩=>⟨a,e,l.ex _ _ f⟩|.clo _ ws P,_,⟨a,ob,u,c,g,U,vs,e,d,b,i,r⟩=>⟨a,ob,u,c,g,U,vs,e,l.fz _ _ _ d,l.fz _ _ _ b,i,zu.monoW l r⟩|.xc x,_,⟨a,o,u,C,e,d,b⟩=>⟨a,o,u,C,e,l.fz _ _ _ d,b⟩
theorem zu.monoW (l:Z4 K φ H φ' H'):∀{ws:List W}{vs:List V},zu K φ H ws vs->zu K φ' H' ws vs
 |[],_,h=>h|w::ws,_,⟨v,r,e,h,t⟩=>⟨v,r,e,RV.monoW l h,zu.monoW l t⟩
end
def RV.mono {w:W}(h:RV K φ H w v)(l:Le K φ H φ' H'):RV K φ' H' w v:=RV.monoW ⟨l.ex,l.tp,l.fz⟩ h
def zu.mono {w:List W}{v:List V}(h:zu K φ H w v)(l:Le K φ H φ' H'):zu K φ' H' w v:=zu.monoW ⟨l.ex,l.tp,l.fz⟩ h
structure yF (K:Frag)(D:Addr)(φ:b5)(H:Hp)(φ':b5)(H':Hp):Prop where
 ex:∀(n:Nat)(a:Addr),φ[n]? =some a->φ'[n]? =some a
 tp:∀a vs,qw K H a vs->qw K H' a vs
 fr:∀a o,a≠D->H a=some o->(∀n:Nat,φ[n]?≠some a)->H' a=some o
 nw:∀(n:Nat)(a:Addr),φ'[n]? =some a->φ[n]? =some a∨H a=none
 st:∀a,H' a=none->H a=none
 fz:∀a o u,H a=some (.frz o u)->H' a=some (.frz o u)
def yF.refl {D}:yF K D φ H φ H:=⟨λ_ _ h=>h,λ_ _ h=>h,λ_ _ _ h _=>h,λ_ _ h=>.inl h,λ_ h=>h,λ_ _ _ h=>h⟩
def Le.toD {D}(l:Le K φ H φ' H'):yF K D φ H φ' H':=⟨l.ex,l.tp,λa o _ h n=>l.fr a o h n,l.nw,l.st,l.fz⟩
def yF.trans {D φ1 H1 φ2 H2}(a:yF K D φ H φ1 H1)(b:yF K D φ1 H1 φ2 H2):yF K D φ H φ2 H2 where
 ex:=λn x h=>b.ex n x (a.ex n x h)
 tp:=λn x h=>b.tp n x (a.tp n x h)
 fr:=λc o ne h n=>b.fr c o ne (a.fr c o ne h n) λk e=>by
  rcases a.nw k c e with e|e
  ·exact n k e
  ·rw[h]at e;cases e
 nw:=λn c e=>by
  rcases b.nw n c e with e|e
  ·exact a.nw n c e
  ·exact .inr (a.st c e)
 st:=λc e=>a.st c (b.st c e)
 fz:=λc o u h=>b.fz c o u (a.fz c o u h)
def RV.monoD {D}{w:W}(h:RV K φ H w v)(l:yF K D φ H φ' H'):RV K φ' H' w v:=RV.monoW ⟨l.ex,l.tp,l.fz⟩ h
def zu.monoD {D}{w:List W}{v:List V}(h:zu K φ H w v)(l:yF K D φ H φ' H'):zu K φ' H' w v:=zu.monoW ⟨l.ex,l.tp,l.fz⟩ h
theorem zu.length:∀{ws:List W}{vs:List V},zu K φ H ws vs->ws.length=vs.length
 |[],_,h=>by cases h;rfl|w::ws,_,⟨v,r,e,_,t⟩=>by subst e;simp[zu.length t]
theorem zu.get:∀{ws:List W}{vs:List V}{i:Nat}{w:W},zu K φ H ws vs->ws[i]? =some w->∃v,vs[i]? =some v/\RV K φ H w v
 |[],_,_,_,_,e=>by simp at e|w::ws,_,0,_,⟨v,r,e,h,t⟩,q=>by subst e;simp at q;subst q;exact⟨v,by simp,h⟩|w::ws,_,i+1,x,⟨v,r,e,h,t⟩,q=>by
  subst e;obtain⟨y,b,a⟩:=zu.get (i:=i) (w:=x) t (by simpa using q)
  exact⟨y,by simpa using b,a⟩
theorem zu.append:∀{ws us:List W}{vs xs:List V},zu K φ H ws vs->zu K φ H us xs->zu K φ H (ws++us) (vs++xs)
 |[],_,_,_,h,t=>by cases h;exact t|w::ws,_,_,_,⟨v,r,e,h,t⟩,T=>by subst e;exact⟨v,r++_,rfl,h,zu.append t T⟩
def zu.one {w:W}(h:RV K φ H w v):zu K φ H [w] [v]:=⟨v,[],rfl,h,rfl⟩
def zu.nil:zu K φ H [] []:=rfl
def zu.cons {w:W}{v:V}{ws:List W}{vs:List V}(h:RV K φ H w v)(t:zu K φ H ws vs):zu K φ H (w::ws) (v::vs):=⟨v,vs,rfl,h,t⟩
theorem zu.set {w:W}(q:RV K φ H w v):∀{ws:List W}{vs:List V}(i:Nat),zu K φ H ws vs->zu K φ H (ws.set i w) (vs.set i v)
 |[],_,_,h=>by cases h;exact rfl|_::_,_,0,⟨a,r,e,h,t⟩=>by subst e;exact⟨v,r,rfl,q,t⟩|_::_,_,i+1,⟨a,r,e,h,t⟩=>by subst e;exact⟨a,_,rfl,h,zu.set q i t⟩
theorem zu.drop:∀{ws:List W}{vs:List V}(n:Nat),zu K φ H ws vs->zu K φ H (ws.drop n) (vs.drop n)
 |[],_,n,h=>by cases h;rw[List.drop_nil,List.drop_nil];exact zu.nil|_::_,_,0,h=>by simpa using h|_::_,_,n+1,⟨v,r,e,h,t⟩=>by subst e;simpa using zu.drop n t
theorem zu.take:∀{ws:List W}{vs:List V}(n:Nat),zu K φ H ws vs->zu K φ H (ws.take n) (vs.take n)
 |[],_,n,h=>by cases h;rw[List.take_nil,List.take_nil];exact zu.nil|_::_,_,0,h=>by rw[List.take_zero,List.take_zero];exact zu.nil|_::_,_,n+1,⟨v,r,e,h,t⟩=>by subst e;exact⟨v,_,rfl,h,zu.take n t⟩
theorem zu.erase:∀{ws:List W}{vs:List V}(n:Nat),zu K φ H ws vs->zu K φ H (ws.eraseIdx n) (vs.eraseIdx n)
 |[],_,n,h=>by cases h;rw[List.eraseIdx_nil,List.eraseIdx_nil];exact zu.nil|_::_,_,0,⟨v,r,e,h,t⟩=>by subst e;simpa using t|_::_,_,n+1,⟨v,r,e,h,t⟩=>by subst e;exact⟨v,_,rfl,h,zu.erase n t⟩
theorem zu.ints:∀{ns:b3}{vs:List V},zu K φ H (ns.map W.int) vs↔vs=ns.map V.int
 |[],vs=>Iff.rfl|n::ns,vs=>by
  constructor
  ·rintro⟨v,r,e,h,t⟩
   rw[e,(show v=V.int n from h),zu.ints.mp t];rfl
  ·intro e
   exact⟨V.int n,ns.map V.int,e,rfl,zu.ints.mpr rfl⟩
def UM (K:Frag)(H:Hp)(a:Addr)(xs:List V):Prop:=
 (∃ob,H a=some (.frz ob (.lst xs)))∨
  ∃(o:Obj) (its:Array Value) (n:Nat),K.lookup a=some o/\o.cls=.type "list" /\ o.dict=none/\o.data=.seq its n/\its.size<=sizeLine/\Vals xs its.toList
def UM.sq {xs:List V}(h:UM K H a xs):qC K H a xs:=by
 rcases h with h|h
 ·exact .inl (.inr h)
 ·exact .inr h
inductive TabAt (H:Hp)(q:Str)(cv:Value):Prop
 |mk (c:Addr) (oc:Obj) (u:HO) (vs:Array Value) (t:Tok) (e:cv=.ref c) (h:H c=some (.frz oc u)) (d:oc.data=.fields vs/\vs[1]? =some (.str q t))
def Gx (H:Hp)(q:Str)(p:Array Value):Prop:=TriplesOk p.toList/\∀pos c,codeAmong pos p.toList=some c->TabAt H q c
def Gx.mono {q:Str}{p:Array Value}(h:Gx H q p)(l:∀a o u,H a=some (.frz o u)->H' a=some (.frz o u)):Gx H' q p:=
 ⟨h.1,λpos C e=>by obtain⟨c,b,u,vs,t,g,f,d⟩:=h.2 pos C e;exact⟨c,b,u,vs,t,g,l _ _ _ f,d⟩⟩
noncomputable def hT (ks:b3):Int:=reduceHash (Builtin.Tuple.tupleHashOf (ks.map hashInt))
def eB (a:Addr)(xs:List (List Int×Addr×V))(h:Heap):Prop:=(a==sysModules)=false/\xs.length<=sizeLine/\∃zs:List (List Int×Addr×Value),
 Paired (λ(p:List Int×Addr×V) (q:List Int×Addr×Value)=>p.1=q.1/\p.2.1=q.2.1/\RelV p.2.2 q.2.2) xs zs/\
 ∃o e E,h.get? a=some o/\o.ExactDict/\o.data=.dict e E/\e.toList=zs.map (λx=>(⟨hT x.1,.ref x.2.1,x.2.2⟩:DictEntry))/\(zs.map (·.1)).Nodup
def eC (a:Addr)(xs:List (List Int×Addr×V))(o:Obj):Prop:=(a==sysModules)=false/\xs.length<=sizeLine/\∃zs:List (List Int×Addr×Value),
 Paired (λ(p:List Int×Addr×V) (q:List Int×Addr×Value)=>p.1=q.1/\p.2.1=q.2.1/\RelV p.2.2 q.2.2) xs zs/\
 ∃e E,o.ExactDict/\o.data=.dict e E/\e.toList=zs.map (λx=>(⟨hT x.1,.ref x.2.1,x.2.2⟩:DictEntry))/\(zs.map (·.1)).Nodup
def OR (K:Frag)(φ:b5)(H:Hp)(a:Addr):O->Prop
 |.lst ws=>∃vs,H a=some (.lst vs)/\zu K φ H ws vs|.ro ws=>∃vs,UM K H a vs/\zu K φ H ws vs|.dct kvs=>∃us,H a=some (.dK us)/\us.map (·.1)=kvs.map (·.1)/\zu K φ H (kvs.map (·.2)) (us.map (·.2))|.td kvs=>∃xs:List (List Int×Addr×V),H a=some (.ext (eB a xs))/\xs.map (·.1)=kvs.map (·.1)/\(∀x∈xs,qw K H x.2.1 (x.1.map V.int))/\zu K φ H (kvs.map (·.2)) (xs.map (·.2.2))|.tr kvs=>∃(ob:Obj) (u:HO) (xs:List (List Int×Addr×V)),H a=some (.frz ob u)/\eC a xs ob/\xs.map (·.1)=kvs.map (·.1)/\(∀x∈xs,qw K H x.2.1 (x.1.map V.int))/\zu K φ H (kvs.map (·.2)) (xs.map (·.2.2))|.tab q P=>a=P/\∃p,H a=some (.tbl p)/\Gx H q p
structure zL (K:Frag)(φ:b5)(A:Hx)(H:Hp):Prop where
 len:φ.length=A.length
 inj:∀(i j:Nat)(a:Addr)(o o':O),φ[i]? =some a->φ[j]? =some a->A[i]? =some o->A[j]? =some o'->o.mut=true->o'.mut=true->i=j
 ob:∀(n:Nat)(o:O),A[n]? =some o->∃a,φ[n]? =some a/\OR K φ H a o
variable {A:Hx}
def OR.there {o:O}(h:OR K φ H a o)(m:o.mut=true):∃u,H a=some u/\(∀xs,u≠.tup xs)/\(∀ob v,u≠.frz ob v):=by
 cases o with
 |lst ws=>obtain⟨vs,e,_⟩:=h;exact⟨_,e,λ_ z=>(by cases z),λ_ _ z=>(by cases z)⟩|ro ws=>cases m|dct kvs=>obtain⟨vs,e,_⟩:=h;exact⟨_,e,λ_ z=>(by cases z),λ_ _ z=>(by cases z)⟩|td kvs=>obtain⟨vs,e,_⟩:=h;exact⟨_,e,λ_ z=>(by cases z),λ_ _ z=>(by cases z)⟩|tr _=>cases m|tab q P=>obtain⟨_,vs,e,_⟩:=h;exact⟨_,e,λ_ z=>(by cases z),λ_ _ z=>(by cases z)⟩
def WT {o:HO}{vs:List V}(h:qw K H a vs)(n:∀xs,H b≠some (.tup xs))(N:∀ob u,H b≠some (.frz ob u)):qw K (upd H b o) a vs:=by
 rcases h with (h|⟨ob,h⟩)|h
 ·exact .inl (.inl (by rw[qx];exact h;intro e;subst e;exact n _ h))
 ·exact .inl (.inr ⟨ob,by rw[qx];exact h;intro e;subst e;exact N _ _ h⟩)
 ·exact .inr h
theorem Le.upd {o:HO}{k:Nat}(c:φ[k]? =some b)(n:∀xs,H b≠some (.tup xs))(N:∀ob u,H b≠some (.frz ob u)):Le K φ H φ (upd H b o) where
 ex:=λ_ _ h=>h
 tp:=λ_ _ h=>WT h n N
 fr:=λa u h z=>by
  rw[qx];exact h;intro e;subst e;exact z k c
 nw:=λ_ _ h=>.inl h
 st:=λa h=>by
  by_cases e:a=b
  ·subst e;rw[jO]at h;cases h
  ·rw[qx e]at h;exact h
 fz:=λa ob u h=>by
  rw[qx];exact h;intro e;subst e;exact N _ _ h
def Le.new {p:Addr}{o:HO}(b:H p=none):Le K φ H φ (L2.upd H p o) where
 ex:=λ_ _ h=>h
 tp:=λ_ _ h=>WT h (λxs z=>by rw[b]at z;cases z) (λ_ _ z=>by rw[b]at z;cases z)
 fr:=λa u h z=>by
  rw[qx];exact h;intro e;subst e;rw[b]at h;cases h
 nw:=λ_ _ h=>.inl h
 st:=λa h=>by
  by_cases e:a=p
  ·subst e;rw[jO]at h;cases h
  ·rw[qx e]at h;exact h
 fz:=λa ob u h=>by
  rw[qx];exact h;intro e;subst e;rw[b]at h;cases h
def Le.alloc {p:Addr}{o:HO}(b:H p=none):Le K φ H (φ++[p]) (L2.upd H p o) where
 ex:=λn a h=>by
  have:=(cA.mp h).1
  rw[ai this];exact h
 tp:=(Le.new (φ:=φ) b).tp
 fr:=(Le.new (K:=K) (φ:=φ) b).fr
 nw:=λn a h=>by
  by_cases hn:n < φ.length
  ·rw[ai hn]at h;exact .inl h
  ·rw[ar (by omega)]at h
   have e:a=p:=by
    have:=bO h
    simpa using this
   subst e;exact .inr b
 st:=(Le.new (K:=K) (φ:=φ) b).st
 fz:=(Le.new (K:=K) (φ:=φ) b).fz
def Le.ofD {o:HO}(b:H D=none)(l:yF K D φ (L2.upd H D o) φ' H'):Le K φ H φ' H' where
 ex:=l.ex
 tp:=λa vs h=>l.tp a vs ((Le.new (K:=K) (φ:=φ) b).tp a vs h)
 fr:=λa u h n=>by
  have ne:a≠D:=by rintro rfl;rw[b]at h;cases h
  exact l.fr a u ne (by rw[qx ne];exact h) n
 nw:=λn a e=>by
  rcases l.nw n a e with e|e
  ·exact .inl e
  ·by_cases h:a=D
   ·subst h;rw[jO]at e;cases e
   ·rw[qx h]at e;exact .inr e
 st:=λa e=>by
  have E:=l.st a e
  by_cases h:a=D
  ·subst h;rw[jO]at E;cases E
  ·rw[qx h]at E;exact E
 fz:=λa ob u h=>l.fz a ob u (by rw[qx];exact h;rintro rfl;rw[b]at h;cases h)
theorem yF.upd {o:HO}{xs:List V}(b:H D=some (.lst xs)):yF K D φ H φ (L2.upd H D o) where
 ex:=λ_ _ h=>h
 tp:=λa vs h=>WT h (λxs z=>by rw[b]at z;cases z) (λ_ _ z=>by rw[b]at z;cases z)
 fr:=λa u ne h n=>by rw[qx ne];exact h
 nw:=λ_ _ h=>.inl h
 st:=λa e=>by
  by_cases h:a=D
  ·subst h;rw[jO]at e;cases e
  ·rw[qx h]at e;exact e
 fz:=λa ob u h=>by
  rw[qx];exact h;intro e;subst e;rw[b]at h;cases h
def OR.keep {o:O}(h:OR K φ H a o)(l:Le K φ H φ' H')(e:∀u,H a=some u->H' a=some u):OR K φ' H' a o:=by
 cases o with
 |lst ws=>obtain⟨vs,q,r⟩:=h;exact⟨vs,e _ q,r.mono l⟩|dct kvs=>obtain⟨vs,q,k,r⟩:=h;exact⟨vs,e _ q,k,r.mono l⟩|td kvs=>obtain⟨vs,q,k,t,r⟩:=h;exact⟨vs,e _ q,k,λx b=>l.tp _ _ (t x b),r.mono l⟩|tr kvs=>obtain⟨ob,u,vs,q,d,k,t,r⟩:=h;exact⟨ob,u,vs,e _ q,d,k,λx b=>l.tp _ _ (t x b),r.mono l⟩|tab q P=>obtain⟨k,p,q,r⟩:=h;exact⟨k,p,e _ q,r.mono l.fz⟩|ro ws=>
  obtain⟨vs,q,r⟩:=h;refine⟨vs,?_,r.mono l⟩;rcases q with ⟨ob,q⟩|q
  ·exact .inl ⟨ob,e _ q⟩
  ·exact .inr q
theorem zL.alloc {p:Addr}{u:HO}{o:O}(S:zL K φ A H)(r:H p=none)(new:OR K (φ++[p]) (L2.upd H p u) p o):Le K φ H (φ++[p]) (L2.upd H p u)/\zL K (φ++[p]) (A++[o]) (L2.upd H p u):=by
 have l:Le K φ H (φ++[p]) (L2.upd H p u):=Le.alloc r;have old:∀(i:Nat) a,(φ++[p])[i]? =some a->i<A.length->φ[i]? =some a:=λi a e b=>by
  rw[ai (by rw[S.len];exact b)]at e;exact e
 refine⟨l,by simp[S.len],λi j a x w m g f c m1 m2=>?_,λn o' e=>?_⟩
 ·by_cases b:i<A.length
  ·by_cases d:j<A.length
   ·rw[ai b]at f
    rw[ai d]at c;exact S.inj i j a x w (old i a m b) (old j a g d) f c m1 m2
   ·exfalso
    rw[ai b]at f;have t:j=A.length:=by have:=(cA.mp c).1;simp at this;omega
    subst t;rw[ar (by rw[S.len];exact ao _),S.len]at g
    simp at g;obtain⟨B,E,q⟩:=S.ob i x f;rw[old i a m b]at E;cases E;obtain⟨z,h,_⟩:=q.there m1;rw[<- g,r]at h;cases h
  ·have v:i=A.length:=by have:=(cA.mp f).1;simp at this;omega
   by_cases d:j<A.length
   ·exfalso
    rw[ai d]at c;subst v;rw[ar (by rw[S.len];exact ao _),S.len]at m
    simp at m;obtain⟨B,E,q⟩:=S.ob j w c;rw[old j a g d]at E;cases E;obtain⟨z,h,_⟩:=q.there m2;rw[<- m,r]at h;cases h
   ·have:=(cA.mp c).1;simp at this;omega
 ·by_cases hn:n<A.length
  ·rw[ai hn]at e
   obtain⟨a,E,q⟩:=S.ob n o' e;refine⟨a,l.ex _ _ E,q.keep l λz h=>?_⟩;rw[qx];exact h;intro y;subst y;rw[r]at h;cases h
  ·have s:n=A.length:=by have:=(cA.mp e).1;simp at this;omega
   subst s;rw[ar (ao _)]at e;simp at e;subst e;exact⟨p,by rw[ar (by rw[S.len];exact ao _),S.len];simp,new⟩
def zL.write {p:Addr}{u:HO}{o o':O}(S:zL K φ A H)(hn:A[n]? =some o)(m:o.mut=true)(m':o'.mut=true)(c:φ[n]? =some p)(new:OR K φ (L2.upd H p u) p o'):
  Le K φ H φ (L2.upd H p u)/\zL K φ (A.set n o') (L2.upd H p u):=by
 obtain⟨Y,e,q⟩:=S.ob n o hn;rw[c]at e;cases e;obtain⟨z,h,D,N⟩:=q.there m;have l:Le K φ H φ (L2.upd H p u):=Le.upd c (λxs e=>by rw[h]at e;exact D xs (aC e)) λob v e=>by rw[h]at e;exact N ob v (aC e)
 have mt:∀(i:Nat)(w:O),(A.set n o')[i]? =some w->w.mut=true->∃f,A[i]? =some f/\f.mut=true:=λi w e M=>by
  by_cases hi:i=n
  ·subst hi;exact⟨o,hn,m⟩
  ·rw[aP (Ne.symm hi)]at e;exact⟨w,e,M⟩
 refine⟨l,by simp[S.len],λi j a C B U T Q P m1 m2=>?_,λi w e=>?_⟩
 ·obtain⟨s,E,J⟩:=mt i C Q m1
  obtain⟨g,X,I⟩:=mt j B P m2;exact S.inj i j a s g U T E X J I
 ·by_cases hi:i=n
  ·subst hi
   have:i<A.length:=(cA.mp hn).1
   rw[aT this]at e;cases e;exact⟨p,c,new⟩
  ·rw[aP (Ne.symm hi)]at e
   obtain⟨a,E,r⟩:=S.ob i w e;refine⟨a,E,?_⟩
   by_cases hm:w.mut=true
   ·have ne:a≠p:=λz=>hi (S.inj i n a w o E (by rw[z];exact c) e hn hm m)
    exact r.keep l λz h=>by rw[qx ne];exact h
   ·cases w with
    |lst _=>exact absurd rfl hm|dct _=>exact absurd rfl hm|td _=>exact absurd rfl hm|tr _=>obtain⟨ob,u,vs,q,d,k,t,r⟩:=r;exact⟨ob,u,vs,l.fz _ _ _ q,d,k,λx L=>l.tp _ _ (t x L),r.mono l⟩|tab _ _=>exact absurd rfl hm|ro ws=>
     obtain⟨vs,b,y⟩:=r;refine⟨vs,?_,y.mono l⟩;rcases b with ⟨ob,b⟩|b
     ·refine .inl ⟨ob,?_⟩
      rw[qx];exact b;intro z;subst z;rw[h]at b;exact N _ _ (aC b)
     ·exact .inr b
def zL.lay {p:Addr}{u:HO}(S:zL K φ A H)(b:H p=none):zL K φ A (L2.upd H p u):=
 ⟨S.len,S.inj,λn o e=>by
  obtain⟨a,c,q⟩:=S.ob n o e;refine⟨a,c,q.keep (Le.new b) λz h=>?_⟩;rw[qx];exact h;intro E;subst E;rw[b]at h;cases h⟩
def zL.off {o:HO}{xs:List V}(S:zL K φ A H)(b:H D=some (.lst xs))(n:∀k:Nat,φ[k]?≠some D):zL K φ A (L2.upd H D o):=
 ⟨S.len,S.inj,λk u e=>by
  obtain⟨a,E,q⟩:=S.ob k u e;have ne:a≠D:=λz=>n k (by rw[<- z];exact E)
  have l:yF K D φ H φ (L2.upd H D o):=yF.upd b;refine⟨a,E,?_⟩;cases u with
  |lst ws=>obtain⟨vs,q,r⟩:=q;exact⟨vs,by rw[qx ne];exact q,r.monoD l⟩|dct kvs=>obtain⟨vs,q,k,r⟩:=q;exact⟨vs,by rw[qx ne];exact q,k,r.monoD l⟩|td kvs=>obtain⟨vs,q,k,t,r⟩:=q;exact⟨vs,by rw[qx ne];exact q,k,λx h=>l.tp _ _ (t x h),r.monoD l⟩|tr kvs=>obtain⟨ob,u,vs,q,d,k,t,r⟩:=q;exact⟨ob,u,vs,l.fz _ _ _ q,d,k,λx h=>l.tp _ _ (t x h),r.monoD l⟩|tab _ _=>obtain⟨k,vs,q,r⟩:=q;exact⟨k,vs,by rw[qx ne];exact q,r.mono l.fz⟩|ro ws=>
   obtain⟨vs,q,r⟩:=q;refine⟨vs,?_,r.monoD l⟩;rcases q with ⟨ob,q⟩|q
   ·exact .inl ⟨ob,by rw[qx ne];exact q⟩
   ·exact .inr q⟩
def zL.Kf (S:zL K φ A H)(b:H D=none)(d:K.lookup D=none):∀k:Nat,φ[k]?≠some D:=λk e=>by
 have c:k<A.length:=by rw[<- S.len];exact(cA.mp e).1
 obtain⟨a,E,q⟩:=S.ob k A[k] (by simp[c])
 rw[e]at E;cases E;cases h:A[k] with
 |lst ws=>rw[h]at q;obtain⟨vs,z,_⟩:=q;rw[b]at z;cases z|dct ws=>rw[h]at q;obtain⟨vs,z,_⟩:=q;rw[b]at z;cases z|td _=>rw[h]at q;obtain⟨vs,z,_⟩:=q;rw[b]at z;cases z|tr _=>rw[h]at q;obtain⟨_,_,_,z,_⟩:=q;rw[b]at z;cases z|tab _ _=>rw[h]at q;obtain⟨_,vs,z,_⟩:=q;rw[b]at z;cases z|ro ws=>
  rw[h]at q;obtain⟨vs,z,_⟩:=q;rcases z with ⟨ob,z⟩|⟨o,i,n,z,_⟩
  ·rw[b]at z;cases z
  ·rw[d]at z;cases z
def zL.track {u:HO}{o:O}(S:zL K φ A H)(I:H D=some u)(n:∀k:Nat,φ[k]?≠some D)(new:OR K (φ++[D]) H D o):zL K (φ++[D]) (A++[o]) H:=by
 have l:Z4 K φ H (φ++[D]) H:=⟨λn a h=>by
  have:=(cA.mp h).1
  rw[ai this];exact h,λ_ _ h=>h,λ_ _ _ h=>h⟩
 have old:∀(i:Nat) a,(φ++[D])[i]? =some a->i<A.length->φ[i]? =some a:=λi a e b=>by
  rw[ai (by rw[S.len];exact b)]at e;exact e
 have last:∀a,(φ++[D])[A.length]? =some a->a=D:=λa e=>by
  rw[ar (by rw[S.len];exact ao _),S.len]at e
  simpa using e.symm
 refine⟨by simp[S.len],λi j a C B y w v f m1 m2=>?_,λk o' e=>?_⟩
 ·by_cases b:i<A.length
  ·by_cases c:j<A.length
   ·rw[ai b]at v
    rw[ai c]at f;exact S.inj i j a C B (old i a y b) (old j a w c) v f m1 m2
   ·exfalso
    have p:j=A.length:=by have:=(cA.mp f).1;simp at this;omega
    subst p;exact n i (by rw[<- last a w];exact old i a y b)
  ·have s:i=A.length:=by have:=(cA.mp v).1;simp at this;omega
   by_cases c:j<A.length
   ·exfalso
    subst s;exact n j (by rw[<- last a y];exact old j a w c)
   ·have:=(cA.mp f).1;simp at this;omega
 ·by_cases hn:k<A.length
  ·rw[ai hn]at e
   obtain⟨a,E,q⟩:=S.ob k o' e;refine⟨a,l.ex _ _ E,?_⟩;cases o' with
   |lst ws=>obtain⟨vs,z,r⟩:=q;exact⟨vs,z,r.monoW l⟩|dct ws=>obtain⟨vs,z,Z,r⟩:=q;exact⟨vs,z,Z,r.monoW l⟩|td _=>obtain⟨vs,z,Z,t,r⟩:=q;exact⟨vs,z,Z,λx g=>l.tp _ _ (t x g),r.monoW l⟩|tr _=>obtain⟨ob,u,vs,z,d,Z,t,r⟩:=q;exact⟨ob,u,vs,z,d,Z,λx g=>l.tp _ _ (t x g),r.monoW l⟩|tab _ _=>exact q|ro ws=>obtain⟨vs,z,r⟩:=q;exact⟨vs,z,r.monoW l⟩
  ·have m:k=A.length:=by have:=(cA.mp e).1;simp at this;omega
   subst m;rw[ar (ao _)]at e;simp at e;subst e;exact⟨D,by rw[ar (by rw[S.len];exact ao _),S.len];simp,new⟩
def Le.track {b:b5}{H0:Hp}(l:Le K b H0 φ H)(h0:H0 D=none):Le K b H0 (φ++[D]) H where
 ex:=λn a h=>by
  have h':=l.ex n a h
  have:=(cA.mp h').1
  rw[ai this];exact h'
 tp:=l.tp
 fr:=l.fr
 nw:=λn a e=>by
  by_cases hn:n < φ.length
  ·rw[ai hn]at e;exact l.nw n a e
  ·rw[ar (by omega)]at e
   have E:a=D:=by
    have:=bO e
    simpa using this
   subst E;exact .inr h0
 st:=l.st
 fz:=l.fz
end
noncomputable abbrev St:=L2.St
abbrev XR:=Str->Hp->Prop
def PB (K:Frag)(φ:b5)(H:Hp)(Q:VK):W->Hx->Prop:=λw A=>∀a h v,Le K φ H a h->zL K a A h->RV K a h w v->Q v h
def eD (K:Frag)(φ:b5)(H:Hp)(Q:List V->Hp->Prop):List W->Hx->Prop:=λw A=>∀a h v,Le K φ H a h->zL K a A h->zu K a h w v->Q v h
noncomputable def EB (K:Frag)(φ:b5)(H:Hp)(X:XR):Str->Hx->Prop:=λx A=>∀a h,Le K φ H a h->zL K a A h->X x h
structure RE (K:Frag)(φ:b5)(H:Hp)(ρ:En)(σ:St):Prop where
 len:σ.length=ρ.length
 get:∀(i:Nat)(w:W),ρ[i]? =some (some w)->∃v,σ[i]? =some (some v)/\RV K φ H w v
section
variable {K:Frag}{φ1 φ':b5}{H1 H':Hp}{A:Hx}{ρ:En}{xr:XR}
theorem RE.mono (r:RE K φ H ρ σ)(l:Le K φ H φ' H'):RE K φ' H' ρ σ:=⟨r.len,λi w e=>let ⟨v,h1,h⟩:=r.get i w e;⟨v,h1,h.mono l⟩⟩
def PB.mono {Q:VK}{w:W}(h:PB K φ H Q w A)(l:Le K φ H φ1 H1):PB K φ1 H1 Q w A:=λa b v L=>h a b v (l.trans L)
def EB.mono (h:EB K φ H xr x A)(l:Le K φ H φ1 H1):EB K φ1 H1 xr x A:=λa b L=>h a b (l.trans L)
theorem RE.set {w:W}(r:RE K φ H ρ σ)(q:RV K φ H w v):RE K φ H (ρ.set i (some w)) (σ.set i (some v)):=
 ⟨by simp[r.len],λj u e=>by
  by_cases h:i=j
  ·subst h
   have a:i < ρ.length:=by
    have:=(cA.mp e).1
    simpa using this
   rw[aT a]at e;cases e;exact⟨v,by rw[aT (by rw[r.len];exact a)],q⟩
  ·rw[aP h]at e
   obtain⟨x,c,b⟩:=r.get j u e;exact⟨x,by rw[aP h];exact c,b⟩⟩
end
inductive MM (K:Frag)(xr:XR)(m:Ev)(σ:St)(H:Hp)(Q:VK):Prop
 |mk (φ:b5) (A:Hx) (ρ:En) (S:zL K φ A H) (re:RE K φ H ρ σ) (h:(m ρ A).post (PB K φ H Q) (EB K φ H xr))
noncomputable def tM (K:Frag)(x:XR)(m:Ev):TE:=λσ H Q=>MM K x m σ H Q
inductive MT (K:Frag)(xr:XR)(m:Ev)(σ:St)(H:Hp)(Q:Bool->Hp->Prop):Prop
 |mk (φ:b5) (A:Hx) (ρ:En) (S:zL K φ A H) (re:RE K φ H ρ σ) (h:(m ρ A).post (λw A'=>∃b,w=.bl b/\∀φ' H',Le K φ H φ' H'->zL K φ' A' H'->Q b H') (EB K φ H xr))
noncomputable def tT (K:Frag)(x:XR)(m:Ev):TT:=λσ H Q=>MT K x m σ H Q
abbrev Ea:=En->Hx->R (List W)
inductive MA (K:Frag)(xr:XR)(m:Ea)(σ:St)(H:Hp)(Q:List V->Hp->Prop):Prop
 |mk (φ:b5) (A:Hx) (ρ:En) (S:zL K φ A H) (re:RE K φ H ρ σ) (h:(m ρ A).post (eD K φ H Q) (EB K φ H xr))
noncomputable def GK (K:Frag)(x:XR)(m:Ea):TA:=λσ H Q=>MA K x m σ H Q
def SE (X:Cx)(x:XR)(e:Expr)(m:Ev):Prop:=PE X e (tM X.K x m)
def ST (X:Cx)(x:XR)(e:Expr)(m:Ev):Prop:=PT X e (tT X.K x m)
def SW (X:Cx)(x:XR)(e:Expr)(m:Ev):Prop:=PW X e (tT X.K x m)
def SA (X:Cx)(x:XR)(e:cc)(m:Ea):Prop:=PA X e (GK X.K x m)
section
variable {xr:XR}{a b:Expr}{es:cc}{m ma mb mc:Ev}
def PE.imp {t t':TE}(h:PE X e t)(i:∀σ H Q,t' σ H Q->t σ H Q):PE X e t':=λpins s σ H Q I hw=>h pins s σ H Q I (i σ H Q hw)
def PT.imp {t t':TT}(h:PT X e t)(i:∀σ H Q,t' σ H Q->t σ H Q):PT X e t':=λpins s σ H Q I hw=>h pins s σ H Q I (i σ H Q hw)
def PW.imp {t t':TT}(h:PW X e t)(i:∀σ H Q,t' σ H Q->t σ H Q):PW X e t':=λw pins s σ H Q I hw=>h w pins s σ H Q I (i σ H Q hw)
def PA.imp {t t':TA}(h:PA X es t)(i:∀σ H Q,t' σ H Q->t σ H Q):PA X es t':=λp pins s σ H Q I hw=>h p pins s σ H Q I (i σ H Q hw)
def tM.go {K:Frag}{A:Hx}{ρ:En}{Q:VK}{G:W->Hx->Prop}(S:zL K φ A H)(r:RE K φ H ρ σ)(h:(m ρ A).post G (EB K φ H xr))
  (k:∀w A1 a H1 v,G w A1->Le K φ H a H1->zL K a A1 H1->RV K a H1 w v->Q v H1):tM K xr m σ H Q:=
 ⟨φ,A,ρ,S,r,qt h (λw A1 g a H1 v l s q=>k w A1 a H1 v g l s q) λ_ _ z=>z⟩
def GK.go {K:Frag}{A:Hx}{ρ:En}{m:Ea}{Q:List V->Hp->Prop}{G:List W->Hx->Prop}(S:zL K φ A H)(r:RE K φ H ρ σ)(h:(m ρ A).post G (EB K φ H xr))
  (k:∀w A1 a H1 v,G w A1->Le K φ H a H1->zL K a A1 H1->zu K a H1 w v->Q v H1):GK K xr m σ H Q:=
 ⟨φ,A,ρ,S,r,qt h (λw A1 g a H1 v l s q=>k w A1 a H1 v g l s q) λ_ _ z=>z⟩
def tT.go {K:Frag}{A:Hx}{ρ:En}{Q:Bool->Hp->Prop}{G:W->Hx->Prop}(S:zL K φ A H)(r:RE K φ H ρ σ)(h:(m ρ A).post G (EB K φ H xr))
  (k:∀w A1,G w A1->∃b,w=.bl b/\∀a H1,Le K φ H a H1->zL K a A1 H1->Q b H1):tT K xr m σ H Q:=
 ⟨φ,A,ρ,S,r,qt h (λw A1 g=>k w A1 g) λ_ _ z=>z⟩
noncomputable def qE (i:Nat):Ev:=λρ A=>match ρ[i]? with
 |some (some w)=>.ok w A|_=>.bad
noncomputable def qi (w:W):Ev:=λ_ A=>.ok w A
noncomputable def zi (g:W->W->Hx->R W)(a b:Ev):Ev:=λρ A=>(a ρ A).bind λx A1=>(b ρ A1).bind λy A2=>g x y A2
noncomputable def yc (g:W->Hx->R W)(a:Ev):Ev:=λρ A=>(a ρ A).bind λx A1=>g x A1
noncomputable abbrev gR:Str->Hx->Prop:=λ_ _=>False
def jY (K:Frag)(r:R2)(g:W->W->Hx->R W):Prop:=∀φ A H x y u v Q,zL K φ A H->RV K φ H u x->RV K φ H v y->(g u v A).post (PB K φ H Q) gR->r x y H Q
def KJ (K:Frag)(r:V->Hp->VK->Prop)(g:W->Hx->R W):Prop:=∀φ A H x u Q,zL K φ A H->RV K φ H u x->(g u A).post (PB K φ H Q) gR->r x H Q
def qJ (r:R α):Prop:=∀x A,r≠.exc x A
def JN {r:R α}{P:α->Hx->Prop}{E:Str->Hx->Prop}(n:qJ r)(h:r.post P E):r.post P gR:=by
 cases r with
 |ok a A=>exact h|exc x A=>exact absurd rfl (n x A)|bad=>exact h
def zi.read {g:W->W->Hx->R W}{r:R2}(hn:∀x y A,qJ (g x y A))(e:jY X.K r g):∀σ H Q,tM X.K xr (zi g ma mb) σ H Q->KI r (tM X.K xr ma) (tM X.K xr mb) σ H Q:=by
 rintro σ H Q ⟨φ,A,ρ,S,re,h⟩
 refine tM.go S re (z0.mp h) λw A1 b H1 v i l j d=>?_;refine tM.go j (re.mono l) (qt (z0.mp i) (λ_ _ z=>z) λ_ _ z=>z.mono l) λc A2 a m v2 f L s q=>?_;exact e a A2 m v v2 w c Q s (d.mono L) q (qt (JN (hn _ _ _) f) (λ_ _ z=>z.mono (l.trans L)) λ_ _ z=>z)
def yc.read {g:W->Hx->R W}{r:V->Hp->VK->Prop}(hn:∀x A,qJ (g x A))(b:KJ X.K r g):∀σ H Q,tM X.K xr (yc g ma) σ H Q->du r (tM X.K xr ma) σ H Q:=by
 rintro σ H Q ⟨φ,A,ρ,S,re,h⟩
 refine tM.go S re (z0.mp h) λw A1 a H1 v c l s q=>?_;exact b a A1 H1 v w Q s q (qt (JN (hn _ _) c) (λ_ _ z=>z.mono l) λ_ _ z=>z)
def Q6 {op:Operator}{r:R2}{g:W->W->Hx->R W}(h:qG X (binaryOp op) r)(hn:∀x y A,qJ (g x y A))(H:jY X.K r g)(d:SE X xr a ma)(c:SE X xr b mb):SE X xr (.BinOp a op b pos) (zi g ma mb):=
 PE.imp (dv h d c) (zi.read hn H)
def NV {r:R2}{g:W->W->Hx->R W}(h:qG X (compareOp op) r)(hn:∀x y A,qJ (g x y A))(H:jY X.K r g)(d:SE X xr a ma)(c:SE X xr b mb)(hm:behindInMarks op b=false):SE X xr (.Compare a [op] [b] pos) (zi g ma mb):=
 PE.imp (BR h d c hm) (zi.read hn H)
def tT.toM {K:Frag}{Q:Bool->Hp->Prop}(h:tT K xr m σ H Q):tM K xr m σ H λx d=>∃k,x=.bl k/\Q k d:=by
 obtain⟨φ,A,ρ,S,re,h⟩:=h;refine tM.go S re h λw A1 a H1 v ⟨b,e,q⟩ l s c=>?_;subst e;exact⟨b,c,q a H1 l s⟩
def N6 {r:R2}{g:W->W->Hx->R W}(o:qG X (compareOp op) r)(hn:∀x y A,qJ (g x y A))(c:jY X.K r g)(e:SE X xr a ma)(d:SE X xr b mb)(hm:behindInMarks op b=false):ST X xr (.Compare a [op] [b] pos) (zi g ma mb):=
 PT.imp (AK o e d hm) λσ H Q h=>zi.read hn c σ H _ h.toM
noncomputable def y9 (g g':W->W->Hx->R W)(a b c:Ev):Ev:=λρ A=>(a ρ A).bind λx A1=>(b ρ A1).bind λy A2=>(g x y A2).bind λz d=>match z with
 |.bl true=>(c ρ d).bind λw e=>g' y w e|.bl false=>.ok (.bl false) d|_=>.bad
def y9.read {g g':W->W->Hx->R W}{r i:R2}(hn:∀x y A,qJ (g x y A))(P:jY X.K r g)(m:∀x y A,qJ (g' x y A))(n:jY X.K i g'):
  ∀σ H Q,tM X.K xr (y9 g g' ma mb mc) σ H Q->VB r i (tM X.K xr ma) (tM X.K xr mb) (tM X.K xr mc) σ H Q:=by
 rintro σ H Q ⟨φ,A,ρ,S,re,h⟩
 refine tM.go S re (z0.mp h) λw A1 D H1 v Y L S1 N=>?_;refine tM.go S1 (re.mono L) (qt (z0.mp Y) (λ_ _ z=>z) λ_ _ z=>z.mono L) λf A2 b C v2 U u S2 q=>?_;have j:=L.trans u;have o:=z0.mp U;have a:(g w f A2).post (PB X.K b C λz c=>∃k,z=.bl k/\if k=true then tM X.K xr mc σ c λI p=>i v2 I p Q else Q (.bl false) c) gR:=by
  refine qt (JN (hn _ _ _) o) (λz A3 a e c zv t B M=>?_) λ_ _ z=>z;have l:=j.trans t;cases z with
  |bl k=>
   refine⟨k,M,?_⟩;cases k with
   |true=>
    rw[ah rfl];refine tM.go B (re.mono l) (qt (z0.mp a) (λ_ _ z=>z) λ_ _ z=>z.mono l) λE A4 d p v4 T s Z J=>?_;exact n d A4 p v2 v4 f E Q Z ((q.mono t).mono s) J (qt (JN (m _ _ _) T) (λ_ _ z=>z.mono (l.trans s)) λ_ _ z=>z)
   |false=>
    rw[aj az];exact a e c _ l B rfl
  |non=>cases a|int _=>cases a|str _=>cases a|tup _=>cases a|ref _=>cases a|clo _ _ _=>cases a|xc _=>cases a
 exact P b A2 C v v2 w f _ S2 (N.mono u) q a
def Cj {c:Expr}{o:CmpOp}{r e:R2}{g g':W->W->Hx->R W}(f:qG X (compareOp op) r)(hn:∀x y A,qJ (g x y A))(i:jY X.K r g)(h:qG X (compareOp o) e)(H:∀x y A,qJ (g' x y A))(d:jY X.K e g')
  (m:SE X xr a ma)(l:SE X xr b mb)(j:SE X xr c mc)(hm:lastMarks [op,o] [b,c]=false:=by with_unfolding_all rfl):SE X xr (.Compare a [op,o] [b,c] pos) (y9 g g' ma mb mc):=
 PE.imp (CT f h m l j hm) (y9.read hn i H d)
def DQ {c:Expr}{o:CmpOp}{r i:R2}{g g':W->W->Hx->R W}(j:qG X (compareOp op) r)(hn:∀x y A,qJ (g x y A))(l:jY X.K r g)(d:qG X (compareOp o) i)(e:∀x y A,qJ (g' x y A))(f:jY X.K i g')
  (p:SE X xr a ma)(n:SE X xr b mb)(m:SE X xr c mc)(hm:lastMarks [op,o] [b,c]=false:=by with_unfolding_all rfl):ST X xr (.Compare a [op,o] [b,c] pos) (y9 g g' ma mb mc):=
 PT.imp (DJ j d p n m hm) λσ H Q h=>y9.read hn l e f σ H _ h.toM
noncomputable def yg (a b:Ev):Ev:=λρ A=>(a ρ A).bind λx A1=>match x with
 |.bl true=>b ρ A1|.bl false=>.ok (.bl false) A1|_=>.bad
noncomputable def jL (a b:Ev):Ev:=λρ A=>(a ρ A).bind λx A1=>match x with
 |.bl true=>.ok (.bl true) A1|.bl false=>b ρ A1|_=>.bad
noncomputable def yv (a:Ev):Ev:=λρ A=>(a ρ A).bind λx A1=>match x with
 |.bl k=>.ok (.bl (!k)) A1|_=>.bad
noncomputable def Lb (c a b:Ev):Ev:=λρ A=>(c ρ A).bind λx A1=>match x with
 |.bl true=>a ρ A1|.bl false=>b ρ A1|_=>.bad
theorem tT.mono {K:Frag}{c:b5}{H1:Hp}{A1:Hx}{ρ:En}{Q:Bool->Hp->Prop}(S:zL K c A1 H1)(L:Le K φ H c H1)(re:RE K φ H ρ σ)
  (h:(m ρ A1).post (λw A=>∃b,w=.bl b/\∀a d,Le K φ H a d->zL K a A d->Q b d) (EB K φ H xr)):tT K xr m σ H1 Q:=
 ⟨c,A1,ρ,S,re.mono L,qt h (λw A ⟨b,e,q⟩=>⟨b,e,λa d l s=>q a d (L.trans l) s⟩) λ_ _ z=>z.mono L⟩
noncomputable def zo:Ea:=λ_ A=>.ok [] A
noncomputable def zh (a:Ev)(r:Ea):Ea:=λρ A=>(a ρ A).bind λx A1=>(r ρ A1).bind λxs A2=>.ok (x::xs) A2
noncomputable def qM (a:Ea):Ev:=λρ A=>(a ρ A).bind λxs A1=>.ok (.tup xs) A1
noncomputable def qF (a:Ea):Ev:=λρ A=>(a ρ A).bind λxs A1=>.ok (.ref A1.length) (A1++[.lst xs])
def Ze {K:Frag}{A:Hx}{p:Addr}{ws:List W}{vs:List V}(S:zL K φ A H)(h:H p=none)(r:zu K φ H ws vs):
  Le K φ H φ (upd H p (.tup vs))/\zL K φ A (upd H p (.tup vs))/\RV K φ (upd H p (.tup vs)) (.tup ws) (.ref p):=
 ⟨Le.new h,S.lay h,p,vs,rfl,qw.of jO,r.mono (Le.new h)⟩
def gG {K:Frag}{A:Hx}{p:Addr}{ws:List W}{vs:List V}(S:zL K φ A H)(h:H p=none)(r:zu K φ H ws vs):
  Le K φ H (φ++[p]) (upd H p (.lst vs))/\zL K (φ++[p]) (A++[.lst ws]) (upd H p (.lst vs))/\RV K (φ++[p]) (upd H p (.lst vs)) (.ref A.length) (.ref p):=by
 have l:Le K φ H (φ++[p]) (upd H p (.lst vs)):=Le.alloc h;obtain⟨b,a⟩:=S.alloc (o:=.lst ws) h ⟨vs,jO,r.mono l⟩;exact⟨b,a,p,rfl,by rw[<- S.len];simp⟩
def eE {m:Ea}(h:SA X xr es m)(d:∀ρ A ws a,m ρ A=.ok ws a->ws.length<=sizeLine):SE X xr (.List es pos) (qF m):=
 PE.imp (dM h) λσ H Q ⟨φ,A,ρ,S,re,h⟩=>by
  have h':=z0.mp h;cases e:m ρ A with
  |ok ws a=>
   rw[e]at h';refine⟨φ,A,ρ,S,re,?_⟩;rw[e];intro b H1 vs l s q;refine⟨by rw[<- q.length];exact d ρ A ws a e,λp c=>?_⟩
   obtain⟨a1,a2,f⟩:=gG s c q;exact h' _ _ _ (l.trans a1) a2 f
  |exc x a=>rw[e]at h';refine⟨φ,A,ρ,S,re,?_⟩;rw[e];exact h'|bad=>rw[e]at h';exact h'.elim
end
inductive Fl where
 |nx (ρ:En)|rt (w:W)|bk (ρ:En)|ct (ρ:En)
abbrev Ex:=En->Hx->R Fl
def FB (K:Frag)(φ:b5)(H:Hp)(D:Ends):Fl->Hx->Prop
 |.nx ρ,A=>∀a h b,Le K φ H a h->zL K a A h->RE K a h ρ b->D.nx b h|.rt w,A=>∀a h v,Le K φ H a h->zL K a A h->RV K a h w v->D.rt v h|.bk ρ,A=>∀a h b,Le K φ H a h->zL K a A h->RE K a h ρ b->D.bk b h|.ct ρ,A=>∀a h b,Le K φ H a h->zL K a A h->RE K a h ρ b->D.ct b h
def FB.mono {K:Frag}{c:b5}{H1:Hp}{D:Ends}{f:Fl}{A:Hx}(h:FB K φ H D f A)(l:Le K φ H c H1):FB K c H1 D f A:=by
 cases f with
 |nx ρ=>exactλa b v L=>h a b v (l.trans L)|rt ρ=>exactλa b v L=>h a b v (l.trans L)|bk ρ=>exactλa b v L=>h a b v (l.trans L)|ct ρ=>exactλa b v L=>h a b v (l.trans L)
inductive MS (K:Frag)(xr:XR)(m:Ex)(D:Ends)(σ:St)(H:Hp):Prop
 |mk (φ:b5) (A:Hx) (ρ:En) (S:zL K φ A H) (re:RE K φ H ρ σ) (h:(m ρ A).post (FB K φ H D) (EB K φ H xr))
noncomputable def tS (K:Frag)(x:XR)(m:Ex):TS:=λD σ H=>MS K x m D σ H
def SS (X:Cx)(x:XR)(st:Stmt)(m:Ex):Prop:=PS X st (tS X.K x m)
def KA (X:Cx)(x:XR)(st:cq)(m:Ex):Prop:=yS X st (tS X.K x m)
section
variable {xr:XR}{a b c:Expr}{st:Stmt}{rest:cq}{m:Ev}{m1 m2:Ex}
def PS.imp {t t':TS}(h:PS X st t)(i:∀D σ H,t' D σ H->t D σ H):PS X st t':=λpins s σ H D I hw=>h pins s σ H D I (i D σ H hw)
def yS.imp {t t':TS}(h:yS X rest t)(i:∀D σ H,t' D σ H->t D σ H):yS X rest t':=λpins s σ H D I hw=>h pins s σ H D I (i D σ H hw)
noncomputable def zx:Ex:=λρ A=>.ok (.nx ρ) A
noncomputable def zq (m1 m2:Ex):Ex:=λρ A=>(m1 ρ A).bind λl A1=>match l with
 |.nx ρ1=>m2 ρ1 A1|f=>.ok f A1
noncomputable def yj (m:Ev):Ex:=λρ A=>(m ρ A).bind λ_ A1=>.ok (.nx ρ) A1
noncomputable def qy (m:Ev):Ex:=λρ A=>(m ρ A).bind λw A1=>.ok (.rt w) A1
noncomputable def qS (c:Ev)(a b:Ex):Ex:=λρ A=>(c ρ A).bind λx A1=>match x with
 |.bl true=>a ρ A1|.bl false=>b ρ A1|_=>.bad
noncomputable def qe (i:Nat)(m:Ev):Ex:=λρ A=>(m ρ A).bind λw A1=>.ok (.nx (ρ.set i (some w))) A1
def qe.read:∀D σ H,tS X.K xr (qe i m) D σ H->Gy (tM X.K xr m) (Gg i) D σ H:=by
 rintro D σ H ⟨φ,A,ρ,S,re,h⟩
 exact tM.go S re (z0.mp h) λw A1 a H1 v b l s q=>b a H1 _ l s ((re.mono l).set q)
noncomputable def wV (g:W->W->W->Hx->R Unit)(me mo mi:Ev):Ex:=λρ A=>(me ρ A).bind λv A1=>(mo ρ A1).bind λo A2=>(mi ρ A2).bind λi b=>(g o i v b).bind λ_ a=>.ok (.nx ρ) a
def Ur (K:Frag)(t:Qx)(g:W->W->W->Hx->R Unit):Prop:=∀φ A H o i v w b wv Q,zL K φ A H->RV K φ H w o->RV K φ H b i->RV K φ H wv v->
 (g w b wv A).post (λ_ c=>∀a h,Le K φ H a h->zL K a c h->Q h) gR->t o i v H Q
def PQ {o i:Expr}{mo mi:Ev}{t:Qx}{g:W->W->W->Hx->R Unit}(ht:Kl X t)(hn:∀o i v A,qJ (g o i v A))(U:Ur X.K t g)(he:SE X xr e m)(P:SE X xr o mo)(T:SE X xr i mi)
  (N:swapsWithSole [.Subscript o i tpos] e pos.line X.env=pure false:=by rfl)(hw:swappedStores [.Subscript o i tpos] e X.env=pure none:=by rfl)
  (j:(assignEach [.Subscript o i tpos] X.env).map (·.2)=[assign (.Subscript o i tpos) X.env]:=by rfl)
  (Y:∀v,assign (.Subscript o i tpos) X.env v=(do
   let ov <- holding [v] (eval o X.env)
   let iv <- holding [v,ov] (eval i X.env)
   standAt tpos
   holding [v,ov,iv] (setItem ov iv v)
   release [v,ov,iv] []):=by intro _;rfl):SS X xr (.Assign [.Subscript o i tpos] e pos) (wV g m mo mi):=
 PS.imp (NU he (de P T ht Y) N hw j) λD σ H ⟨φ,A,ρ,S,re,h⟩=>by
  refine tM.go S re (z0.mp h) λp A1 E H1 v1 j f S1 M=>?_;refine tM.go S1 (re.mono f) (qt (z0.mp j) (λ_ _ z=>z) λ_ _ z=>z.mono f) λn A2 C H2 v2 Z s S2 J=>?_;have l:=f.trans s;refine tM.go S2 (re.mono l) (qt (z0.mp Z) (λ_ _ z=>z) λ_ _ z=>z.mono l) λw B c H3 I a d S3 Q=>?_;have L:=l.trans d;refine U c B H3 v2 I v1 n w p _ S3 (J.mono d) Q (M.mono (s.trans d)) ?_;cases r:g n w p B with
  |ok u y=>
   rw[r]at a;exactλb H4 q S4=>a b H4 σ (L.trans q) S4 (re.mono (L.trans q))
  |exc x y=>exact absurd r (hn _ _ _ _ x y)|bad=>rw[r]at a;exact a.elim
structure jv where
 at_:Hx->Nat->Option (Option W)
 len:Nat
def Z5 (K:Frag)(φ:b5)(H:Hp)(j:jv)(J:It):Prop:=∀i a h A,Z4 K φ H a h->zL K a A h->
 (∀w,j.at_ A i=some (some w)->J.go i h/\∀x H1,J.yld i h x H1->Le K a h a H1/\zL K a A H1/\RV K a H1 w x)/\(j.at_ A i=some none->J.stop i h)
abbrev Ei:=En->Hx->R jv
inductive MI (K:Frag)(xr:XR)(mi:Ei)(σ:St)(H:Hp)(Rr:It->Hp->Prop):Prop
 |mk (φ:b5) (A:Hx) (ρ:En) (S:zL K φ A H) (re:RE K φ H ρ σ) (h:(mi ρ A).post (λj A1=>∀φ1 H1 J,Le K φ H φ1 H1->zL K φ1 A1 H1->Z5 K φ1 H1 j J->Rr J H1) (EB K φ H xr))
noncomputable def tI (K:Frag)(x:XR)(mi:Ei):TI:=λσ H r=>MI K x mi σ H r
def SI (X:Cx)(x:XR)(t iter:Expr)(mi:Ei):Prop:=PI X t iter (tI X.K x mi)
def PI.imp {t t':TI}(h:PI X tg e t)(i:∀σ H Q,t' σ H Q->t σ H Q):PI X tg e t':=λpins s σ H Q I hw=>h pins s σ H Q I (i σ H Q hw)
abbrev Tg:=W->En->Option En
inductive MG (K:Frag)(tw:Tg)(v:V)(σ:St)(H:Hp)(Q:St->Hp->Prop):Prop
 |mk (φ:b5) (A:Hx) (ρ:En) (w:W) (ρ':En) (S:zL K φ A H) (re:RE K φ H ρ σ) (rv:RV K φ H w v) (t:tw w ρ=some ρ') (q:∀σ',RE K φ H ρ' σ'->Q σ' H)
noncomputable def tG (K:Frag)(tw:Tg):TG:=λv σ H Q=>MG K tw v σ H Q
def SG (X:Cx)(t:Expr)(tw:Tg):Prop:=PG X t (tG X.K tw)
def PG.imp {t t':TG}(h:PG X tg t)(i:∀v σ H Q,t' v σ H Q->t v σ H Q):PG X tg t':=λpins s σ H v u Q I r hw=>h pins s σ H v u Q I r (i v σ H Q hw)
noncomputable def zD (i:Nat):Tg:=λw ρ=>some (ρ.set i (some w))
noncomputable def qP (i j:Nat):Tg:=λw ρ=>match w with
 |.tup [x,y]=>some ((ρ.set i (some x)).set j (some y))|_=>none
noncomputable def ym (j:jv)(st:W->Ex):Nat->Nat->Ex
 |0,i,ρ,A=>match j.at_ A i with
  |some none=>.ok (.nx ρ) A|_=>.bad
 |f+1,i,ρ,A=>match j.at_ A i with
  |some none=>.ok (.nx ρ) A|some (some w)=>(st w ρ A).bind λl A1=>match l with
   |.nx ρ1=>ym j st f (i+1) ρ1 A1|.ct ρ1=>ym j st f (i+1) ρ1 A1|.bk ρ1=>.ok (.nx ρ1) A1|.rt w=>.ok (.rt w) A1
  |none=>.bad
noncomputable def turn (tw:Tg)(body:Ex)(w:W):Ex:=λρ A=>match tw w ρ with
 |some ρ1=>body ρ1 A|none=>.bad
def jT (mi:Ei)(tw:Tg)(body:Ex):Ex:=λρ A=>(mi ρ A).bind λj A1=>ym j (turn tw body) j.len 0 ρ A1
inductive Ln (K:Frag)(xr:XR)(j:jv)(t:W->Ex)(D:Ends)(φ1:b5)(H1:Hp)(f i:Nat)(σ':St)(H':Hp):Prop
 |mk (φ2:b5) (A2:Hx) (ρ2:En) (l:Le K φ1 H1 φ2 H') (S:zL K φ2 A2 H') (re:RE K φ2 H' ρ2 σ') (h:(ym j t f i ρ2 A2).post (FB K φ2 H' D) (EB K φ2 H' xr))
noncomputable def ZU (c:Ev)(body:Ex):Nat->Ex
 |0,ρ,A=>.bad|f+1,ρ,A=>(c ρ A).bind λx A1=>match x with
  |.bl true=>(body ρ A1).bind λl A2=>match l with
   |.nx ρ1=>ZU c body f ρ1 A2|.ct ρ1=>ZU c body f ρ1 A2|.bk ρ1=>.ok (.nx ρ1) A2|.rt w=>.ok (.rt w) A2
  |.bl false=>.ok (.nx ρ) A1|_=>.bad
def V3 (f:Nat)(c:Ev)(body:Ex):Ex:=ZU c body f
noncomputable def Q7 (nl:Nat)(cap:b7)(ρ:En):En:=List.replicate nl none++cap.map λi=>(ρ[i]?).join
theorem RE.Zq {K:Frag}{ρ:En}{nl:Nat}(r:RE K φ H ρ σ):RE K φ H (Q7 nl cap ρ) (L2.Zq nl cap σ):=by
 refine⟨by simp[Q7,L2.Zq],λi w e=>?_⟩
 unfold Q7 at e;unfold L2.Zq
 by_cases hi:i<nl
 ·rw[ai (by simpa using hi),List.getElem?_replicate]at e
  split at e<;>cases e
 ·rw[ar (by simpa using hi),length_replicate,av]at e
  rw[ar (by simpa using hi),length_replicate,av]
  cases c:cap[i-nl]? with
  |none=>rw[c]at e;cases e|some k=>
   rw[c]at e;have E:(ρ[k]?).join=some w:=aC e;cases h:ρ[k]? with
   |none=>rw[h]at E;cases E|some o=>cases o with
    |none=>rw[h]at E;cases E|some d=>
     rw[h]at E;cases E;obtain⟨v,b,a⟩:=r.get k w h;exact⟨v,by simp[b],a⟩
abbrev Em:=En->List W->Hx->R (En×List W)
noncomputable def zQ:Nat:=100000
def zF (elt:Ev):Em:=λρ acc A=>(elt ρ A).bind λy A1=>if acc.length<zQ then .ok (ρ,acc++[y]) A1 else .bad
noncomputable def jj (j:jv)(tw:Tg)(ifs:Ev)(em:Em):Nat->Nat->Em
 |0,i,ρ,acc,A=>match j.at_ A i with
  |some none=>.ok (ρ,acc) A|_=>.bad
 |f+1,i,ρ,acc,A=>match j.at_ A i with
  |some none=>.ok (ρ,acc) A|some (some w)=>match tw w ρ with
   |some ρ1=>(ifs ρ1 A).bind λc A1=>match c with
    |.bl true=>(em ρ1 acc A1).bind λp A2=>jj j tw ifs em f (i+1) p.1 p.2 A2|.bl false=>jj j tw ifs em f (i+1) ρ1 acc A1|_=>.bad
   |none=>.bad
  |none=>.bad
def kd (mi:Ei)(tw:Tg)(ifs:Ev)(em:Em):Em:=λρ acc A=>(mi ρ A).bind λj A1=>jj j tw ifs em j.len 0 ρ acc A1
abbrev jU:=En->Hx->R (List W)
def zH (nl:Nat)(cap:b7)(mi:Ei)(tw:Tg)(ifs:Ev)(em:Em):jU:=λρ A=>(mi ρ A).bind λj A1=>(jj j tw ifs em j.len 0 (Q7 nl cap ρ) [] A1).nox.bind λp A2=>.ok p.2 A2
def UU (K:Frag)(D:Addr)(φ:b5)(H:Hp)(Q:St->Hp->Prop)(p:En×List W)(A1:Hx):Prop:=∀a H1 b zs,yF K D φ H a H1->(∀k:Nat,a[k]?≠some D)->zL K a A1 H1->RE K a H1 p.1 b->H1 D=some (.lst zs)->zu K a H1 p.2 zs->Q b H1
inductive ME (K:Frag)(em:Em)(D:Addr)(σ:St)(H:Hp)(Q:St->Hp->Prop):Prop
 |mk (φ:b5) (A:Hx) (ρ:En) (acc:List W) (ys:List V) (S:zL K φ A H) (re:RE K φ H ρ σ) (hD:H D=some (.lst ys)) (nD:∀k:Nat,φ[k]?≠some D) (rv:zu K φ H acc ys)
  (h:(em ρ acc A).post (UU K D φ H Q) gR)
noncomputable def tE (K:Frag)(em:Em):wK:=λD σ H Q=>ME K em D σ H Q
noncomputable abbrev wt:XR:=λ_ _=>False
def SM (X:Cx)(elt:Expr)(gens:List Comprehension)(sc:Scope)(c:Pos)(d:Nat)(em:Em):Prop:=wm X elt gens sc c d (tE X.K em)
def wm.imp {d:Nat}{t t':wK}(h:wm X elt gens sc pos d t)(i:∀D σ H Q,t' D σ H Q->t D σ H Q):wm X elt gens sc pos d t':=
 λpins s σ H D Q k Q' E I hw a=>h pins s σ H D Q k Q' E I (i D σ H Q hw) a
def Vd {K:Frag}{r:R α}{P:α->Hx->Prop}(h:r.post P gR):r.post P (EB K φ H wt):=qt h (λ_ _ z=>z) λ_ _ z=>z.elim
def KH (X:Cx)(ifs:cc)(m:Ev):Prop:=ZP X ifs (tT X.K wt m)
inductive Lw (tw:Tg)(ifs:Ev)(em:Em)(j:jv)(K:Frag)(D:Addr)(φ:b5)(H:Hp)(Q:St->Hp->Prop)(f i:Nat)(σ':St)(H':Hp):Prop
 |mk (φ2:b5) (A2:Hx) (ρ2:En) (acc2:List W) (ys2:List V) (l:yF K D φ H φ2 H') (S:zL K φ2 A2 H') (re:RE K φ2 H' ρ2 σ') (hD:H' D=some (.lst ys2)) (nD:∀k:Nat,φ2[k]?≠some D) (ra:zu K φ2 H' acc2 ys2) (h:(jj j tw ifs em f i ρ2 acc2 A2).post (UU K D φ H Q) gR)
def jj.read {tw:Tg}{ifs:Ev}{em:Em}{j:jv}{J:It}{K:Frag}{A:Hx}{ρ:En}{acc:List W}{Q:St->Hp->Prop}{f:Nat}
  (jr:Z5 K φ H j J)
  (S:zL K φ A H)(re:RE K φ H ρ σ)(hD:H D=some (.lst ys))(nD:∀k:Nat,φ[k]?≠some D)(ra:zu K φ H acc ys)
  (h:(jj j tw ifs em f 0 ρ acc A).post (UU K D φ H Q) gR):
  Ke J (tG K tw) (tT K wt ifs) (tE K em) D σ H Q:=by
 refine⟨λi f b M=>Lw tw ifs em j K D φ H Q f i b M,
  ⟨f,φ,A,ρ,acc,ys,.refl,S,re,hD,nD,ra,h⟩,?_⟩
 rintro i f T H2 ⟨g,A2,q,e,Y,v,S2,s,I,t,m,a⟩
 obtain⟨j1,j2⟩:=jr i g H2 A2 ⟨v.ex,v.tp,v.fz⟩ S2;cases E:j.at_ A2 i with
 |none=>cases f<;>(unfold jj at a;rw[E]at a;exact a.elim)|some o=>
  cases o with
  |none=>
   left
   refine⟨j2 E,?_⟩;cases f<;>(unfold jj at a;rw[E]at a;exact a g H2 T Y v t S2 s I m)
  |some w=>
   right
   obtain⟨go,yl⟩:=j1 w E;cases f with
   |zero=>unfold jj at a;rw[E]at a;exact a.elim|succ f=>
    unfold jj at a;rw[E]at a;refine⟨go,λb M=>Lw tw ifs em j K D φ H Q f (i+1) b M,λb M z=>⟨f,bz _,z⟩,λx H3 y=>?_⟩;obtain⟨u,S3,q3⟩:=yl x H3 y;obtain⟨Z,X⟩:=u.off I t;dsimp only at a;cases et:tw w q with
    |none=>rw[et]at a;exact a.elim|some l=>
     rw[et]at a;refine⟨g,A2,q,w,l,S3,s.mono u,q3,et,λσ3 r=>?_⟩;refine tT.go S3 r (Vd (z0.mp a)) λc A4 d=>?_;cases c with
     |bl k=>
      refine⟨k,rfl,λn H4 L S4=>?_⟩;obtain⟨C,N⟩:=L.off Z X;have B:=(v.trans (u.trans L).toD);cases k with
      |true=>
       rw[ah rfl];refine⟨n,A4,l,e,Y,S4,r.mono L,C,N,m.mono (u.trans L),qt (z0.mp d) (λp A5 h5 P H5 σ5 zs l5 n5 S5 U d5 r5=>?_) λ_ _ z=>z⟩;exact⟨P,A5,p.1,p.2,zs,B.trans l5,S5,U,d5,n5,r5,h5⟩
      |false=>
       rw[aj az];exact⟨n,A4,l,e,Y,B,S4,r.mono L,C,N,m.mono (u.trans L),d⟩
     |non=>cases d|int _=>cases d|str _=>cases d|tup _=>cases d|ref _=>cases d|clo _ _ _=>cases d|xc _=>cases d
def Z5.mono {K:Frag}{b:b5}{H1:Hp}{j:jv}{J:It}(h:Z5 K φ H j J)(l:Z4 K φ H b H1):Z5 K b H1 j J:=
 λi c d A L=>h i c d A ⟨λn a e=>L.ex n a (l.ex n a e),λa vs e=>L.tp a vs (l.tp a vs e),λa o u e=>L.fz a o u (l.fz a o u e)⟩
inductive MF (K:Frag)(xr:XR)(mq:jU)(σ:St)(H:Hp)(Q:VK):Prop
 |mk (φ:b5) (A:Hx) (ρ:En) (S:zL K φ A H) (re:RE K φ H ρ σ) (h:(mq ρ A).post (λws A1=>∀φ1 H1 D ys,Le K φ H φ1 H1->zL K φ1 A1 H1->H D=none->H1 D=some (.lst ys)->(∀k:Nat,φ1[k]?≠some D)->zu K φ1 H1 ws ys->Q (.ref D) H1) (EB K φ H xr))
noncomputable def tF (K:Frag)(x:XR)(m:jU):TE:=λσ H Q=>MF K x m σ H Q
def SF (X:Cx)(x:XR)(e:Expr)(m:jU):Prop:=PE X e (tF X.K x m)
theorem zH.read {mi:Ei}{tw:Tg}{m:Ev}{em:Em}{nl:Nat}:∀σ H Q,tF X.K xr (zH nl cap mi tw m em) σ H Q->W8 X.K (tI X.K xr mi) (tG X.K tw) (tT X.K wt m) (tE X.K em) nl cap σ H Q:=by
 rintro σ H Q ⟨φ,A,ρ,S,re,h⟩
 refine⟨φ,A,ρ,S,re,qt (z0.mp h) (λj A1 u b H1 J l s q D c t=>?_) λ_ _ z=>z⟩;have ln:Le X.K b H1 b (upd H1 D (.lst [])):=Le.new c;have a:=z0.mp u;refine jj.read (q.mono ⟨ln.ex,ln.tp,ln.fz⟩) (s.lay c) ((re.mono (l.trans ln)).Zq) jO (s.Kf c t) .nil ?_ (f:=j.len) (acc:=[]);cases e:jj j tw m em j.len 0 (Q7 nl cap ρ) [] A1 with
 |ok p A2=>
  rw[e]at a;intro d y g zs o n w r v i;have L:=l.trans (Le.ofD c o);exact a d y D zs L w (l.st D c) v n i
 |exc x A2=>rw[e]at a;exact a.elim|bad=>rw[e]at a;exact a.elim
noncomputable def qm (q:jU):Ev:=λρ A=>(q ρ A).bind λws A1=>.ok (.ref A1.length) (A1++[.lst ws])
def qm.read {q:jU}{K:Frag}:∀σ H Q,tM K xr (qm q) σ H Q->tF K xr q σ H Q:=by
 rintro σ H Q ⟨φ,A,ρ,S,re,h⟩
 refine⟨φ,A,ρ,S,re,qt (z0.mp h) (λws A1 d b H1 D y L s h0 c N r=>?_) λ_ _ z=>z⟩;have l:Le K φ H (b++[D]) H1:=L.track h0;have lw:Z4 K b H1 (b++[D]) H1:=⟨λn a h=>by
  have:=(cA.mp h).1
  rw[ai this];exact h,λ_ _ h=>h,λ_ _ _ h=>h⟩
 refine d _ _ _ l (s.track (o:=.lst ws) c N ⟨y,c,r.monoW lw⟩) ⟨D,rfl,?_⟩;rw[<- s.len];simp
inductive MQ (K:Frag)(xr:XR)(mq:jU)(σ:St)(H:Hp)(Q:VK):Prop
 |mk (φ:b5) (A:Hx) (ρ:En) (S:zL K φ A H) (re:RE K φ H ρ σ) (h:(mq ρ A).post (λws A1=>∀φ1 H1 a ys,Le K φ H φ1 H1->zL K φ1 A1 H1->(qC K H1 a ys∨qw K H1 a ys)->zu K φ1 H1 ws ys->Q (.ref a) H1) (EB K φ H xr))
noncomputable def tQ (K:Frag)(x:XR)(m:jU):TE:=λσ H Q=>MQ K x m σ H Q
def SQ (X:Cx)(x:XR)(e:Expr)(m:jU):Prop:=PE X e (tQ X.K x m)
noncomputable def zW (w:W)(A:Hx):Option (List W):=match w with
 |.tup ws=>some ws|.ref n=>match A[n]? with
  |some (.lst ws)=>some ws|some (.ro ws)=>some ws|_=>none
 |_=>none
def Wg {K:Frag}{A:Hx}{w:W}{ws:List W}(S:zL K φ A H)(q:RV K φ H w v)(e:zW w A=some ws):∃a y,v=.ref a/\(qC K H a y∨qw K H a y)/\zu K φ H ws y:=by
 unfold zW at e;cases w with
 |tup xs=>cases e;obtain⟨a,y,b,f,E⟩:=q;exact⟨a,y,b,.inr f,E⟩|ref n=>
  obtain⟨a,b,f⟩:=q;dsimp only at e;cases d:A[n]? with
  |none=>rw[d]at e;cases e|some o=>
   rw[d]at e;obtain⟨g,E,r⟩:=S.ob n o d;rw[f]at E;cases E;cases o with
   |lst xs=>cases e;obtain⟨y,c,h⟩:=r;exact⟨a,y,b,.inl (qC.of c),h⟩|ro xs=>cases e;obtain⟨y,c,h⟩:=r;exact⟨a,y,b,.inl c.sq,h⟩|dct xs=>cases e|td _=>cases e|tr _=>cases e|tab _ _=>cases e
 |non=>cases e|bl _=>cases e|clo _ _ _=>cases e|xc _=>cases e|int _=>cases e|str _=>cases e
def qo (m:Ev):jU:=λρ A=>(m ρ A).bind λw A1=>match zW w A1 with
 |some ws=>.ok ws A1|none=>.bad
def Gk (w:W)(A:Hx):Option jv:=match zW w A with
 |some ws=>some ⟨λA i=>(zW w A).map λws=>ws[i]?,ws.length⟩|none=>none
def zN (m:Ev):Ei:=λρ A=>(m ρ A).bind λw A1=>match Gk w A1 with
 |some j=>.ok j A1|none=>.bad
def eF (K:Frag)(t:TE):TI:=λσ H r=>t σ H λx H1=>∃a,x=.ref a/\(((∃xs,qC K H1 a xs)/\r (Lr K a) H1)∨((∃xs,qw K H1 a xs)/\r (Lu K a) H1))
def eG {l:Expr}{t:TE}(j:PE X l t):PI X tg l (eF X.K t):=by
 intro pins s σ H n I h;refine zU (j pins s σ H _ I h) λv s1 ⟨x,H1,i,g,Q⟩=>?_;obtain⟨a,e,q⟩:=Q;subst e;cases g;have f:∀b∈[s1.heap.objs.size],kN X pins H1 b:=λb m=>by
  have e:b=s1.heap.objs.size:=by simpa using m
  subst e;exact i.fpOk (ao _) (i.hok.fresh (ao _))
 rcases q with ⟨⟨xs,d⟩,q⟩|⟨⟨xs,d⟩,q⟩
 ·obtain⟨c,r,p,z⟩:=i.list d
  refine wpAny_pyIter_list p.isList ?_;exact⟨s1.heap.objs.size,[s1.heap.objs.size],_,_,H1,rfl,i.kept (t':=s1.toks) λb o e=>ae _ e,Eb a _,⟨_,au _ rfl,rfl,rfl⟩,f,q⟩
 ·obtain⟨c,r,p,z⟩:=i.tuple d
  refine wpAny_pyIter_tuple (show s1.heap.IsTuple a c.toArray from p) ?_
  exact⟨s1.heap.objs.size,[s1.heap.objs.size],_,_,H1,rfl,i.kept (t':=s1.toks) λb o e=>ae _ e,Fs a _,⟨_,au _ rfl,rfl,rfl⟩,f,q⟩
noncomputable def wB (lo:Int)(n:Nat):jv:=⟨λ_ i=>if i<n then some (some (.int (lo+i))) else some none,n⟩
def NJ {K:Frag}{lo:Int}:Z5 K φ H (wB lo n) (KN lo n):=λi a h A lw S=>by
 unfold wB;dsimp only
 by_cases hi:i<n
 ·rw[ah hi]
  refine⟨λw e=>?_,λe=>by cases e⟩
  cases e;exact⟨hi,λx H1 ⟨b,E⟩=>by subst b;exact⟨.refl,S,E⟩⟩
 ·rw[aj hi]
  exact⟨λw e=>(by cases e),λ_=>Nat.le_of_not_lt hi⟩
noncomputable def je (i:Int):Bool:=decide (-(2 ^ 62)<=i)&&decide (i<2 ^ 62)
def gz {i:Int}(h:je i=true):-(2 ^ 62)<=i/\i<2 ^ 62:=by
 unfold je at h;rw[ak,af,af]at h;exact h
def j9 (m:Ev):Ei:=λρ A=>(m ρ A).bind λw A1=>match w with
 |.int j=>if je j then .ok (wB 0 j.toNat) A1 else .bad|_=>.bad
def Qs (m m':Ev):Ei:=λρ A=>(m ρ A).bind λw A1=>(m' ρ A1).bind λa A2=>match w,a with
 |.int i,.int j=>if je i&&je j then .ok (wB i (j-i).toNat) A2 else .bad|_,_=>.bad
end
abbrev Fn:=List W->Hx->R W
def eI (K:Frag)(x:Str)(C:Value):Prop:=nsIn K mainGlobals x=some (some C)
def XE (K:Frag)(E:XK)(x:Str)(H:Hp):Prop:=∀C d,eI K x C->E C d H
inductive ZX (K:Frag)(n:Nat)(f:Fn)(vs:List V)(H:Hp)(Q:VK)(E:XK):Prop
 |mk (len:vs.length=n) (φ:b5) (A:Hx) (ws:List W) (S:zL K φ A H) (r:zu K φ H ws vs) (q:(f ws A).post (PB K φ H Q) (EB K φ H (XE K E)))
def ZX.len {K:Frag}{f:Fn}{vs:List V}{Q:VK}{E:XK}(h:ZX K n f vs H Q E):vs.length=n:=by cases h;assumption
inductive zK (P:Program)(w:World)(K:Frag)(mg:cg)(base:Heap)(k:Nat)(x:Str)(n:Nat)(f:Fn):Prop
 |mk (fa:Addr) (fd:FuncData) (ps:b9) (F:yR P w K mg base gp k fa fd ps (ZX K n f)) (at_:mg x=some (.ref fa)) (kp:keepIn K (.ref fa)=true) (bi:Binds K fd ps [])
noncomputable def zC (f:Fn)(a:Ea):Ev:=λρ A=>(a ρ A).bind λws A1=>f ws A1
section
variable {m ma:Ev}
def Yj (m:Ea)(n:Nat):Prop:=∀ρ A ws a,m ρ A=.ok ws a->ws.length=n
def qz:Yj zo 0:=λ_ _ _ _ h=>by unfold zo at h;cases h;rfl
def zR {m:Ea}(h:Yj m n):Yj (zh ma m) (n+1):=λρ A ws a e=>by
 unfold zh at e;cases h1:ma ρ A with
 |ok x A1=>
  rw[h1,zJ]at e;cases H:m ρ A1 with
  |ok xs A2=>rw[H,zJ]at e;cases e;simp[h ρ A1 xs _ H]|exc x A2=>rw[H]at e;cases e|bad=>rw[H]at e;cases e
 |exc x A1=>rw[h1]at e;cases e|bad=>rw[h1]at e;cases e
end
noncomputable def qK (n:Nat)(m:Ex):Fn:=λws A=>(m (ws.map some++List.replicate (n-ws.length) none) A).nox.bind λf A1=>match f with
 |.rt w=>.ok w A1|.nx _=>.ok .non A1|_=>.bad
theorem RE.start {K:Frag}{ws:List W}{vs:List V}(h:zu K φ H ws vs):RE K φ H (ws.map some++List.replicate (N.length-ws.length) none) (L2.start N vs):=by
 unfold L2.start;refine⟨by simp[h.length],λi w e=>?_⟩
 by_cases hi:i<ws.length
 ·rw[ai (by simpa using hi),av]at e
  cases hw:ws[i]? with
  |none=>rw[hw]at e;cases e|some c=>
   rw[hw]at e;cases e;obtain⟨v,b,a⟩:=h.get hw;refine⟨v,?_,a⟩;rw[ai (by rw[ag,<- h.length];exact hi),av,b];rfl
 ·rw[ar (by simpa using hi),List.getElem?_replicate]at e
  split at e<;>cases e
section
variable {K:Frag}
theorem zK.mono {j k:Nat}{f:Fn}(F:zK P w K mg base j x n f)(h:j<=k):zK P w K mg base k x n f:=by cases F with|mk d fd p F a b c=>exact⟨d,fd,p,F.mono h,a,b,c⟩
end
section
variable {K:Frag}
def jy {a:α}{A:Hx}:qJ (R.ok a A):=λ_ _ h=>by cases h
def qA:qJ (R.bad:R α):=λ_ _ h=>by cases h
def wX {c:Prop} [Decidable c] {a b:R α}(H:qJ a)(h:qJ b):qJ (if c then a else b):=by split<;>assumption
noncomputable def gP (f:Int->Int->W):W->W->Hx->R W
 |.int i,.int j,A=>.ok (f i j) A|_,_,_=>.bad
def Qq {f:Int->Int->W}:∀x y A,qJ (gP f x y A):=λx y A=>by
 unfold gP;split
 ·exact jy
 ·exact qA
noncomputable def ZZ (c:Int->Int->Bool)(f:Int->Int->W):W->W->Hx->R W
 |.int i,.int j,A=>if c i j then .ok (f i j) A else .bad|_,_,_=>.bad
def Uj {c:Int->Int->Bool}{f:Int->Int->W}:∀x y A,qJ (ZZ c f x y A):=λx y A=>by
 unfold ZZ;split
 ·exact wX jy qA
 ·exact qA
def Ql {f:Int->Int->W}{g:Int->Int->V}(h:∀i j φ H,RV K φ H (f i j) (g i j)):jY K (gm g) (gP f):=λφ A H x y u v Q S a q p=>by
 cases u with
 |int i=>cases v with
  |int j=>obtain rfl:=a;obtain rfl:=q;exact⟨i,j,rfl,rfl,p φ H _ .refl S (h i j φ H)⟩|_=>exact p.elim
 |_=>exact p.elim
def VY {c:Int->Int->Bool}{C:Int->Int->Prop}{f:Int->Int->W}{g:Int->Int->V}(d:∀i j,c i j=true->C i j)(h:∀i j φ H,RV K φ H (f i j) (g i j)):jY K (rI C g) (ZZ c f):=λφ A H x y u v Q S b q p=>by
 cases u with
 |int i=>cases v with
  |int j=>
   obtain rfl:=b;obtain rfl:=q;unfold ZZ at p;dsimp only at p
   by_cases a:c i j=true
   ·rw[ah a]at p;exact⟨i,j,rfl,rfl,d i j a,p φ H _ .refl S (h i j φ H)⟩
   ·rw[aj a]at p;exact p.elim
  |_=>exact p.elim
 |_=>exact p.elim
noncomputable def Kt (i j:Int):Bool:=(decide (-(2 ^ 64)<i)&&decide (i<2 ^ 64)) || (decide (-(2 ^ 64)<j)&&decide (j<2 ^ 64))
noncomputable def Gv (_ j:Int):Bool:=decide (0<j)
def AR (i j:Int)(h:Kt i j=true):Kq i j:=by
 unfold Kt at h;simp only[bH,ak,decide_eq_true_eq]at h;exact h
def BB (i j:Int)(h:Gv i j=true):(λ_ j=>0<j) i j:=by
 unfold Gv at h;simpa using h
def gg:=gP λi j=>.int (i-j)
def wA:=ZZ Gv λi j=>.int (i%j)
def UI:=gP λi j=>.int (Builtin.bitXor i j)
def Z1:=gP λi j=>.bl (decide (i<j))
def gQ:=gP λi j=>.bl (decide (i<=j))
def Jp:=gP λi j=>.bl (decide (j<i))
def UN:=gP λi j=>.bl (decide (j<=i))
noncomputable def UK (i j:Int):Bool:=decide (0<=j)&&decide (j<=1000000)&&decide (i.natAbs<2 ^ 64)
def AW (i j:Int)(h:UK i j=true):MZ i j:=by
 unfold UK at h;simp only[ak,decide_eq_true_eq]at h;exact⟨h.1.1,h.1.2,h.2⟩
def Gu:=ZZ UK λi j=>.int (i ^ j.toNat)
variable {a b c:Expr}
structure ky (X:Cx)(op:CmpOp)(g:W->W->Hx->R W):Prop where
 ex:∃r:R2,qG X (compareOp op) r/\(∀x y A,qJ (g x y A))/\jY X.K r g
 mks:∀b,op≠.In->op≠.NotIn->behindInMarks op b=false
def ZM {r:R2}{g:W->W->Hx->R W}(a:qG X (compareOp op) r)(H:∀x y A,qJ (g x y A))(h:jY X.K r g):ky X op g:=⟨⟨r,a,H,h⟩,λb a1 a2=>Cy b a1 a2⟩
def UC:ky X .Lt Z1:=ZM Mn Qq (Ql λ_ _ _ _=>rfl)
def Kr:ky X .LtE gQ:=ZM dD Qq (Ql λ_ _ _ _=>rfl)
def M4:ky X .Gt Jp:=ZM dE Qq (Ql λ_ _ _ _=>rfl)
def eJ:ky X .GtE UN:=ZM dF Qq (Ql λ_ _ _ _=>rfl)
end
inductive Ty where
 |non|bl|int|str|tup|lst|dct
 deriving DecidableEq
noncomputable def Ty.nm:Ty->String
 |.non => "NoneType" | .bl => "bool" | .int => "int" | .str => "str" | .tup => "tuple" | .lst => "list" | .dct => "dict"
noncomputable def QJ (w:W)(A:Hx):Option Ty:=match w with
 |.non=>some .non|.bl _=>some .bl|.int _=>some .int|.str _=>some .str|.tup _=>some .tup|.ref n=>match A[n]? with
  |some (.lst _)=>some .lst|some (.dct _)=>some .dct|_=>none
 |_=>none
noncomputable def QC (a b:Ty):Bool:=a==b || (a==.bl&&b==.int)
def OD {K:Frag}(a b:Ty):kitOne K (.type a.nm) (.type b.nm)=some (QC a b):=by
 cases a<;>cases b<;>rfl
section
variable {xr:XR}{K:Frag}{a c:Expr}{es:cc}{m:Ev}
def GB (K:Frag)(H:Hp)(x:V)(t:Ty):Prop:=wF K H x (.type t.nm)∨∃a xs,x=.ref a/\qw K H a xs/\t=.tup
def CG {A:Hx}{w:W}{t:Ty}(S:zL K φ A H)(q:RV K φ H w v)(e:QJ w A=some t):GB K H v t:=by
 cases w with
 |non=>cases e;obtain rfl:=q;exact .inl .non|bl k=>cases e;obtain rfl:=q;exact .inl (.bl k)|clo _ _ _=>cases e|xc _=>cases e|int k=>cases e;obtain rfl:=q;exact .inl (.int k)|str k=>cases e;obtain rfl:=q;exact .inl (.str k)|tup ws=>cases e;obtain⟨a,vs,rfl,h,_⟩:=q;exact .inr ⟨a,vs,rfl,h,rfl⟩|ref n=>
  obtain⟨a,rfl,c⟩:=q;unfold QJ at e;dsimp only at e;cases E:A[n]? with
  |none=>rw[E]at e;cases e|some o=>
   rw[E]at e;obtain⟨d,b,r⟩:=S.ob n o E;rw[c]at b;cases b;cases o with
   |lst ws=>cases e;obtain⟨vs,z,_⟩:=r;exact .inl (.lst z)|dct ws=>cases e;obtain⟨vs,z,_⟩:=r;exact .inl (.dK z)|td _=>cases e|tr _=>cases e|tab _ _=>cases e|ro ws=>cases e
def GB.kit {x:V}{t:Ty}(I:Inv X pins σ H s)(r:RelV x u)(h:GB X.K H x t):
  (∀{Q:cb}{E:cb}{A:Around}{c:Ty},(∀tk,Q (.bool (QC t c)) { s with toks:=tk })->wpAny (model X.prog X.w) A (call (.builtin "isinstance") [u,.type c.nm]) Q E s):=by
 intro Q E A c q;rcases h with h|⟨a,xs,rfl,h,rfl⟩
 ·exact Eo I r h (OD t c) q
 ·cases (show u=Value.ref a from r)
  obtain⟨i,_,⟨o,d,b,_⟩,_⟩:=I.tuple h;exact bQ kitx_tuple I.kIn ⟨o,d,b⟩ (OD .tup c) (λz=>nomatch z) q
def eK (K:Frag):List V->Hp->VK->Prop:=λxs H Q=>∃x t c,xs=[x,.ty (Ty.nm c)]/\GB K H x t/\Q (.bl (QC t c)) H
def BJ:jN X (.builtin "isinstance") (eK X.K):=by
 intro pins s σ H xs us Q I r h;obtain⟨x,t,c,rfl,ht,q⟩:=h;obtain⟨u,U,rfl,b,a⟩:=vals2 r;cases (show U=Value.type c.nm from a)
 exact ht.kit I b λtk=>⟨.bl (QC t c),H,I.tok tk,rfl,q⟩
def ZY (t:Ty)(m:Ev):Ev:=λρ A=>(m ρ A).bind λw A1=>match QJ w A1 with
 |some t'=>.ok (.bl (QC t' t)) A1|none=>.bad
def zM:W->W->Hx->R W:=λx y A=>match zW x A,y with
 |some ws,.int i=>match wj ws i with
  |some w=>.ok w A|none=>.bad
 |_,_=>.bad
def eL:∀x y A,qJ (zM x y A):=λx y A=>by
 unfold zM;split
 ·split
  ·exact jy
  ·exact qA
 ·exact qA
def CM {ws:List W}{i:Int}{w:W}(r:zu K φ H ws ys)(e:wj ws i=some w):∃y,wj ys i=some y/\RV K φ H w y:=by
 unfold wj at e ⊢;rw[<- r.length];cases h:gq ws.length i with
 |none=>rw[h]at e;cases e|some j=>
  rw[h]at e;obtain⟨y,b,a⟩:=r.get (i:=j) e;exact⟨y,b,a⟩
def eM:jY K (Lf K) zM:=λφ A H x y u v Q S d q p=>by
 unfold zM at p;cases es:zW u A with
 |none=>rw[es]at p;exact p.elim|some ws=>
  rw[es]at p;cases v with
  |int i=>
   obtain rfl:=q;dsimp only at p;cases e:wj ws i with
   |none=>rw[e]at p;exact p.elim|some w=>
    rw[e]at p;obtain⟨a,Y,rfl,z,r⟩:=Wg S d es;obtain⟨b,c,h⟩:=CM r e;rcases z with z|z
    ·exact .inl ⟨a,Y,i,b,rfl,rfl,z,c,p φ H _ .refl S h⟩
    ·exact .inr (.inl ⟨a,Y,i,b,rfl,rfl,z,c,p φ H _ .refl S h⟩)
  |non=>exact p.elim|bl _=>exact p.elim|str _=>exact p.elim|tup _=>exact p.elim|ref _=>exact p.elim|clo _ _ _=>exact p.elim|xc _=>exact p.elim
def QG (K:Frag)(r:List V->Hp->VK->Prop)(g:List W->Hx->R W):Prop:=∀φ A H a y ws Q,zL K φ A H->(qC K H a y∨qw K H a y)->zu K φ H ws y->(g ws A).post (PB K φ H Q) gR->r [.ref a] H Q
noncomputable def mQ (g:List W->Hx->R W)(q:jU):Ev:=λρ A=>(q ρ A).bind λws A1=>g ws A1
def mQ.read {g:List W->Hx->R W}{q:jU}(hn:∀ws A,qJ (g ws A))(c:QG X.K r g):∀σ H Q,tM X.K xr (mQ g q) σ H Q->UT r (Mw (tQ X.K xr q) MV) σ H Q:=by
 rintro σ H Q ⟨φ,A,ρ,S,re,h⟩
 refine⟨φ,A,ρ,S,re,qt (z0.mp h) (λws A1 d b H1 a y l s z r=>?_) λ_ _ z=>z⟩;exact c b A1 H1 a y ws Q s z r (qt (JN (hn _ _) d) (λ_ _ z=>z.mono l) λ_ _ z=>z)
def Ge {id:String}{g:List W->Hx->R W}{q:jU}(d:jN X (.builtin id) r)(hn:∀ws A,qJ (g ws A))(a:QG X.K r g)(hm:X.mg x=none)(v:bootBuiltins x=some (.builtin id))(f:SQ X xr e q)(c:Gl X x:=by rfl)
  (H:x ≠ "__name__":=by decide)(b:(x==("__debug__":Str))=false:=by decide)(he:starEach [e] X.env=(false,eval e X.env)::starEach [] X.env:=by rfl)(h:(backTo pos (starEach [] X.env)).any (·.1)=false:=by rfl):
  SE X xr (.Call (.Name x p) [e] [] pos) (mQ g q):=PE.imp (JK d c hm v (jq f jP he) H b he h) (mQ.read hn a)
def eN {id:String}{g:List W->Hx->R W}{q:jU}(d:jN X (.type id) r)(hn:∀ws A,qJ (g ws A))(a:QG X.K r g)(hm:X.mg x=none)(v:bootBuiltins x=some (.type id))(f:SQ X xr e q)(c:Gl X x:=by rfl)
  (H:x ≠ "__name__":=by decide)(b:(x==("__debug__":Str))=false:=by decide)(he:starEach [e] X.env=(false,eval e X.env)::starEach [] X.env:=by rfl)(h:(backTo pos (starEach [] X.env)).any (·.1)=false:=by rfl):
  SE X xr (.Call (.Name x p) [e] [] pos) (mQ g q):=PE.imp (Qd d c hm v (jq f jP he) H b he h) (mQ.read hn a)
noncomputable def qQ:List W->Hx->R W:=λws A=>.ok (.int ws.length) A
def AN:QG K (λxs H Q=>∃p y,xs=[.ref p]/\(qC K H p y∨qw K H p y)/\Q (.int y.length) H) qQ:=λφ A H a y ws Q S z r p=>
 ⟨a,y,rfl,z,by rw[<- r.length];exact p φ H _ .refl S rfl⟩
noncomputable def jK:List W->Hx->R W:=λws A=>.ok (.tup ws) A
def BS:QG K (λxs H Q=>∃p y,xs=[.ref p]/\((qC K H p y/\∀l,H l=none->Q (.ref l) (upd H l (.tup y)))∨(qw K H p y/\Q (.ref p) H))) jK:=λφ A H a y ws Q S z r p=>by
 refine⟨a,y,rfl,?_⟩;rcases z with z|z
 ·refine .inl ⟨z,λl h=>?_⟩
  obtain⟨a1,a2,b⟩:=Ze S h r;exact p _ _ _ a1 a2 b
 ·exact .inr ⟨z,p φ H _ .refl S ⟨a,y,rfl,z,r⟩⟩
variable {b:Expr}
def Va {a:Addr}(I:Inv X pins σ H s)(l:X.calm=true)(z:qC X.K H a ys∨qw X.K H a ys)
  (h:∀(c:b4)(j:Addr)(fp wr:b5)(S:Nat->Heap->Prop)(s2:Shared),Vals ys c->ys.length<=sizeLine->Walks X.prog X.w X.A.in1 j fp wr c.length (λi v=>c[i]? =some v) S->S 0 s2.heap->(∀b∈fp,b<s2.heap.objs.size)->
   (∀(h':Heap)(tk:Nat),(∀b o,b∉wr->s2.heap.get? b=some o->h'.get? b=some o)->Inv X pins σ H { s2 with heap:=h',toks:=tk })->Q (.ref j) s2):
  wpAny (model X.prog X.w) X.A.in1 (pyIter (.ref a)) Q E s:=by
 have g:X.A.in1.handled=none:=I.ok.hd l;have keep:∀(o:Obj)(h':Heap)(tk:Nat),(∀b u,b∉[s.heap.objs.size]->(s.heap.push o).get? b=some u->h'.get? b=some u)->Inv X pins σ H { s with heap:=h',toks:=tk }:=λo h' tk k=>I.kept λb u e=>k b u (by
  intro hm;have m:b=s.heap.objs.size:=by simpa using hm
  exact absurd (m ▸ aH e) (a5 _)) (ae _ e)
 rcases z with z|z
 ·obtain⟨c,r,p,f⟩:=I.list z
  have t:a<s.heap.objs.size:=by obtain⟨o,n,e,_⟩:=p;exact aH e
  refine wpAny_pyIter_list p.isList ?_;have W:=Walks.list (prog:=X.prog) (w:=X.w) g s.heap.objs.size a (aM t) c.toArray;rw[aA]at W;simp only[List.getElem?_toArray]at W;refine h c s.heap.objs.size _ _ _ _ r f W ⟨⟨_,au _ rfl,rfl,rfl⟩,p.isList.at λo e=>ae _ e⟩ (λb d=>?_) λh' tk k=>keep _ h' tk k;show b<(s.heap.push _).objs.size;rw[bp];rcases cy.mp d with e|d
  ·rw[e];exact bz _
  ·have e:b=a:=by simpa using d
   rw[e];exact bh t
 ·obtain⟨c,r,p,f⟩:=I.tuple z
  have t:a<s.heap.objs.size:=p.lt;have P:s.heap.IsTuple a c.toArray:=p;refine wpAny_pyIter_tuple P ?_;have W:=Walks.tuple (prog:=X.prog) (w:=X.w) g s.heap.objs.size a (aM t) c.toArray;rw[aA]at W;simp only[List.getElem?_toArray]at W;refine h c s.heap.objs.size _ _ _ _ r f W ⟨⟨_,au _ rfl,rfl,rfl⟩,P.at λo e=>ae _ e⟩ (λb d=>?_) λh' tk k=>keep _ h' tk k;show b<(s.heap.push _).objs.size;rw[bp];rcases cy.mp d with e|d
  ·rw[e];exact bz _
  ·have e:b=a:=by simpa using d
   rw[e];exact bh t
noncomputable def Ks:V->Option Bool
 |.bl b=>some b|.int i=>some (i != 0)|.non=>some false|_=>none
noncomputable def Kv:W->Option Bool
 |.bl b=>some b|.int i=>some (i != 0)|.non=>some false|_=>none
def D9 {w:W}{k:Bool}(q:RV K φ H w v)(e:Kv w=some k):Ks v=some k:=by
 cases w<;>first
  |(cases e;done)
  |(obtain rfl:=q;exact e)
def EX {A:Around}{k:Bool}{Q:Bool->Shared->Prop}(r:RelV v u)(e:Ks v=some k)(h:Q k s):wpAny (model X.prog X.w) A (truthy u) Q E s:=by
 cases v with
 |bl b=>cases e;cases r;exact wpAny_truthy_bool h|int i=>
  cases e;obtain⟨t,rfl⟩:=r;exact PySem.P.truthy_int h
 |non=>cases e;cases r;exactλ_ _ _=>h|_=>cases e
def gE:List W->Option (List Bool)
 |[]=>some []|w::ws=>match Kv w,gE ws with
  |some k,some ks=>some (k::ks)|_,_=>none
theorem Rp:∀{ws:List W}{Y:List V}{ks:List Bool},zu K φ H ws Y->gE ws=some ks->∀(i:Nat)(y:V),Y[i]? =some y->∃k,ks[i]? =some k/\Ks y=some k
 |[],_,_,r,e,i,y,h=>by cases r;simp at h|w::ws,_,ks,⟨v,r,g,q,t⟩,e,i,y,h=>by
  subst g;unfold gE at e;cases E:Kv w with
  |none=>rw[E]at e;cases e|some k=>
   cases a:gE ws with
   |none=>rw[E,a]at e;cases e|some b=>
    rw[E,a]at e;cases e;cases i with
    |zero=>simp at h;subst h;exact⟨k,by simp,D9 q E⟩|succ i=>simp at h;obtain⟨c,f,d⟩:=Rp t a i y h;exact⟨c,by simpa using f,d⟩
theorem RR:∀{ws:List W}{ks:List Bool},gE ws=some ks->ks.length=ws.length
 |[],_,e=>by cases e;rfl|w::ws,ks,e=>by
  unfold gE at e;cases a:Kv w with
  |none=>rw[a]at e;cases e|some k=>
   cases E:gE ws with
   |none=>rw[a,E]at e;cases e|some K=>rw[a,E]at e;cases e;simp[RR E]
def range_all (ks:List Bool):(List.range ks.length).all (λi=>ks.getD i false)=ks.all id:=by
 rw[Bool.eq_iff_iff,aX,aX]
 constructor
 ·intro h x b
  obtain⟨i,a,rfl⟩:=aW b
  have:=h i (cx.mpr a)
  rw[ab,aa a]at this;exact this
 ·intro h i a
  have H:=cx.mp a;rw[ab,aa H];exact h _ (aS H)
def M8 (K:Frag)(f:List Bool->Bool):List V->Hp->VK->Prop:=λxs H Q=>∃a Y ks,xs=[.ref a]/\(qC K H a Y∨qw K H a Y)/\ks.length=Y.length/\(∀(i:Nat)(y:V),Y[i]? =some y->∃k,ks[i]? =some k/\Ks y=some k)/\Q (.bl (f ks)) H
def DE {ks:List Bool}{A:Around}(r:Vals ys its)(l:ks.length=ys.length)(ht:∀(i:Nat)(y:V),ys[i]? =some y->∃k,ks[i]? =some k/\Ks y=some k):TruthOf X.prog X.w A (λi v=>its[i]? =some v) λi=>ks.getD i false:=by
 intro i v s Q E P H;have b:i<its.length:=(cA.mp P).1;have h:i<ys.length:=by rw[r.length];exact b
 obtain⟨u,a,e⟩:=r.get (i:=i) (x:=ys[i]) (by simp[h])
 rw[P]at a;cases a;obtain⟨k,d,c⟩:=ht i ys[i] (by simp[h])
 dsimp only at H;rw[ab,d]at H;exact EX e c H
def D8 (d:X.calm=true):jN X (.builtin "all") (M8 X.K λks=>ks.all id):=by
 intro pins s σ H xs us Q I r h;obtain⟨a,y,ks,rfl,z,l,ht,q⟩:=h;obtain⟨u,rfl,c⟩:=vals1 r;cases c;refine call_all_walk (Va I d z λb f fp wr S s2 v g W st p back=>?_);refine⟨f,fp,wr,_,_,S,λi=>ks.getD i false,rfl,W,st,DE v l ht,λh' tk k=>?_⟩;have e:b.length=ks.length:=by rw[l,v.length]
 rw[e,range_all];exact⟨.bl _,H,back h' tk k,rfl,q⟩
def ZT (f:List Bool->Bool):List W->Hx->R W:=λws A=>match gE ws with
 |some ks=>.ok (.bl (f ks)) A|none=>.bad
def eO {f:List Bool->Bool}:∀ws A,qJ (ZT f ws A):=λws A=>by
 unfold ZT;split
 ·exact jy
 ·exact qA
def Bh {f:List Bool->Bool}:QG K (M8 K f) (ZT f):=λφ A H a y ws Q S z r p=>by
 unfold ZT at p;cases e:gE ws with
 |none=>rw[e]at p;exact p.elim|some ks=>
  rw[e]at p;exact⟨a,y,ks,rfl,z,by rw[RR e,r.length],Rp r e,p φ H _ .refl S rfl⟩
abbrev gM:=ZT λks=>ks.all id
def eP:qG X (compareOp .Is) (λx y H Q=>∃i j,x=.bl i/\y=.bl j/\Q (.bl (i==j)) H):=by
 intro pins s σ H x y v u Q I a r h;obtain⟨i,j,rfl,rfl,q⟩:=h;cases a;cases r;exact is_bool ⟨.bl _,H,I,rfl,q⟩
def Dg:qG X (compareOp .IsNot) (λx y H Q=>∃i j,x=.bl i/\y=.bl j/\Q (.bl (!(i==j))) H):=by
 intro pins s σ H x y v u Q I a r h;obtain⟨i,j,rfl,rfl,q⟩:=h;cases a;cases r;exact isnot_bool ⟨.bl _,H,I,rfl,q⟩
noncomputable def Uh:W->Bool
 |.non=>true|_=>false
def Rz {w:W}(q:RV K φ H w v):decide (v=.non)=Uh w:=by
 cases w with
 |non=>obtain rfl:=q;rfl|bl b=>obtain rfl:=q;rfl|clo _ _ _=>obtain⟨a,_,_,_,_,_,_,rfl,_⟩:=q;rfl|xc _=>obtain⟨a,_,_,_,rfl,_⟩:=q;rfl|int b=>obtain rfl:=q;rfl|str b=>obtain rfl:=q;rfl|tup ws=>obtain⟨a,vs,rfl,_⟩:=q;rfl|ref n=>obtain⟨a,rfl,_⟩:=q;rfl
def wg (neg:Bool):W->W->Hx->R W:=λx y A=>match x,y with
 |.bl i,.bl j=>.ok (.bl (if neg then !(i==j) else i==j)) A|w,.non=>.ok (.bl (if neg then !Uh w else Uh w)) A|_,_=>.bad
def NB {n:Bool}:∀x y A,qJ (wg n x y A):=λx y A=>by
 unfold wg;split
 ·exact jy
 ·exact jy
 ·exact qA
def eQ:jY K (λx y H Q=>(y=.non/\Q (.bl (decide (x=.non))) H)∨∃i j,x=.bl i/\y=.bl j/\Q (.bl (i==j)) H) (wg false):=λφ A H x y u v Q S b a p=>by
 cases v with
 |non=>
  have q:y=.non:=a;refine .inl ⟨q,?_⟩;rw[Rz b];cases u<;>exact p φ H _ .refl S rfl
 |bl j=>
  cases u with
  |bl i=>obtain rfl:=b;obtain rfl:=a;exact .inr ⟨i,j,rfl,rfl,p φ H _ .refl S rfl⟩|_=>exact p.elim
 |_=>cases u<;>exact p.elim
def EU:jY K (λx y H Q=>(y=.non/\Q (.bl (!decide (x=.non))) H)∨∃i j,x=.bl i/\y=.bl j/\Q (.bl (!(i==j))) H) (wg true):=λφ A H x y u v Q S b a p=>by
 cases v with
 |non=>
  have q:y=.non:=a;refine .inl ⟨q,?_⟩;rw[Rz b];cases u<;>exact p φ H _ .refl S rfl
 |bl j=>
  cases u with
  |bl i=>obtain rfl:=b;obtain rfl:=a;exact .inr ⟨i,j,rfl,rfl,p φ H _ .refl S rfl⟩|_=>exact p.elim
 |_=>cases u<;>exact p.elim
def UD:ky X .Is (wg false):=ZM (dG.or eP) NB eQ
def WH:ky X .IsNot (wg true):=ZM (Az.or Dg) NB EU
end
noncomputable def MR (outer sc:Scope):Bool:=sc.kind==.function&&decide ((sc.names.map (·.1)).Nodup)&&sc.names.all λy=>y.2 != .free || (outer.names.lookup y.1==some .cell || outer.names.lookup y.1==some .free)
def cps (h:MR X.env.scope sc=true):Za X sc:=by
 unfold MR at h;rw[ak,ak,af,aV,aX]at h;refine⟨h.1.1,h.1.2,λy H e=>?_⟩
 have:=h.2 y H
 rw[e]at this;simp only[bne_self_eq_false,Bool.false_or,bH,aV]at this;exact this
section
variable {xr:XR}{K:Frag}{a b:Expr}{ma mb:Ev}
theorem zL.lst {φ:b5}{A:Hx}{H:Hp}{n:Nat}{ws:List W}{v:V}(S:zL K φ A H)(q:RV K φ H (.ref n) v)(e:A[n]? =some (.lst ws)):∃p vs,v=.ref p/\φ[n]? =some p/\H p=some (.lst vs)/\zu K φ H ws vs:=by
 obtain⟨p,rfl,a⟩:=q;obtain⟨P,h,vs,c,b⟩:=S.ob n _ e;rw[a]at h;cases h;exact⟨p,vs,rfl,a,c,b⟩
def D3 {prog:Program}{A:Around}{t b:Addr}{ws:b4}(ht:IsTup s.heap t ([]:b4).toArray)(a:IsTup s.heap b ws.toArray)(h0:Q (.ref b) s):
  wpAny (model prog w) A (binaryOp .Add (.ref t) (.ref b)) Q E s:=by
 obtain⟨⟨cls,D,data,l⟩,o,c,n,hd⟩:=id ht;obtain⟨⟨C,d,data2,S⟩,h,H,N,hd2⟩:=id a;simp only at c hd H hd2;subst c hd H hd2;exact concat_meets ⟨_,o,rfl⟩ ⟨_,h,rfl⟩ noFill_tuple_add seq_tuple_add slot_tuple_add entry_tuple_add (args_tuple_add_2 _ _)
   (tuple_addW0 t b ([]:b4).toArray ws.toArray n N D d l S (by simp)) ⟨o,h,h0⟩
noncomputable def N2 (K:Frag):R2:=λx y H Q=>∃a b Y,x=.ref a/\y=.ref b/\qw K H a []/\qw K H b Y/\Q (.ref b) H
def DK:qG X (binaryOp .Add) (N2 X.K):=by
 intro pins s σ H x y v u Q I c r h;obtain⟨a,b,Y,rfl,rfl,g,f,q⟩:=h;cases c;cases r;obtain⟨e,d,P,_⟩:=I.tuple g;obtain⟨i,j,p,_⟩:=I.tuple f;cases d;exact D3 P p ⟨.ref b,H,I,rfl,q⟩
def qY:W->W->Hx->R W:=λx y A=>match x,y with
 |.int i,.int j=>.ok (.int (i+j)) A|.tup xs,.tup Y=>if xs.length+Y.length<=zQ then .ok (.tup (xs++Y)) A else .bad|.ref n,.ref k=>match A[n]?,A[k]? with
  |some (.lst xs),some (.lst Y)=>if xs.length+Y.length<=zQ then .ok (.ref A.length) (A++[.lst (xs++Y)]) else .bad|_,_=>.bad
 |_,_=>.bad
def eR:∀x y A,qJ (qY x y A):=λx y A=>by
 unfold qY
 split
 ·exact jy
 ·exact wX jy qA
 ·split
  ·exact wX jy qA
  ·exact qA
 ·exact qA
def gA (h:n<=zQ):n<=sizeLine:=by
 have:sizeLine=16777216:=sizeLine_eq
 unfold zQ at h;omega
def Bk:jY K (λx y H Q=>gm (λi j=>.int (i+j)) x y H Q∨Mh K x y H Q∨N2 K x y H Q∨MC x y H Q) qY:=λφ A H x y u v Q S f q p=>by
 cases u with
 |int i=>cases v with
  |int j=>obtain rfl:=f;obtain rfl:=q;exact .inl ⟨i,j,rfl,rfl,p φ H _ .refl S rfl⟩|_=>exact p.elim
 |tup xs=>cases v with
  |tup Y=>
   obtain⟨a1,b,rfl,t1,c⟩:=f;obtain⟨a2,a,rfl,t,r⟩:=q;unfold qY at p;dsimp only at p
   by_cases h:xs.length+Y.length<=zQ
   ·rw[ah h]at p
    by_cases w:b=[]
    ·subst w
     have m:xs=[]:=by
      have:=c.length
      simpa using this
     subst m;exact .inr (.inr (.inl ⟨a1,a2,a,rfl,rfl,t1,t,p φ H _ .refl S ⟨a2,a,rfl,t,r⟩⟩))
    ·refine .inr (.inl ⟨a1,a2,b,a,rfl,rfl,t1,t,w,by rw[<- c.length,<- r.length];exact gA h,λe=>?_,λne l g=>?_⟩)
     ·subst e
      have m:Y=[]:=by
       have:=r.length
       simpa using this
      subst m;rw[bI]at p;exact p φ H _ .refl S ⟨a1,b,rfl,t1,c⟩
     ·obtain⟨s,o,B⟩:=Ze S g (c.append r)
      exact p _ _ _ s o B
   ·rw[aj h]at p;exact p.elim
  |_=>exact p.elim
 |ref n=>cases v with
  |ref k=>
   unfold qY at p;dsimp only at p;cases E:A[n]? with
   |none=>rw[E]at p;exact p.elim|some D=>cases D with
    |lst xs=>
     cases d:A[k]? with
     |none=>rw[E,d]at p;exact p.elim|some C=>cases C with
      |lst Y=>
       rw[E,d]at p;dsimp only at p;obtain⟨z,v1,rfl,f1,g1,c⟩:=S.lst f E;obtain⟨P,v2,rfl,f2,g2,r⟩:=S.lst q d
       by_cases h:xs.length+Y.length<=zQ
       ·rw[ah h]at p
        refine .inr (.inr (.inr ⟨z,P,v1,v2,rfl,rfl,g1,g2,by rw[<- c.length,<- r.length];exact gA h,λl g=>?_⟩))
        obtain⟨s,o,B⟩:=gG S g (c.append r);exact p _ _ _ s o B
       ·rw[aj h]at p;exact p.elim
      |_=>rw[E,d]at p;exact p.elim
    |_=>rw[E]at p;exact p.elim
  |_=>exact p.elim
 |_=>cases v<;>exact p.elim
def ji:W->W->Hx->R W:=λx y A=>match x,y with
 |.int i,.int j=>if Kt i j then .ok (.int (i * j)) A else .bad|.ref n,.int k=>match A[n]? with
  |some (.lst xs)=>if je k&&decide (xs.length * k.toNat<=zQ) then .ok (.ref A.length) (A++[.lst (List.replicate k.toNat xs).flatten]) else .bad|_=>.bad
 |_,_=>.bad
def eS:∀x y A,qJ (ji x y A):=λx y A=>by
 unfold ji
 split
 ·exact wX jy qA
 ·split
  ·exact wX jy qA
  ·exact qA
 ·exact qA
theorem zu.rep {ws:List W}{vs:List V}(r:zu K φ H ws vs):∀n:Nat,zu K φ H (List.replicate n ws).flatten (List.replicate n vs).flatten
 |0=>.nil|n+1=>by rw[bq,bq,aZ,aZ];exact r.append (zu.rep r n)
def Am:jY K (λx y H Q=>rI Kq (λi j=>.int (i * j)) x y H Q∨M5 x y H Q) ji:=λφ A H x y u v Q S a q p=>by
 cases v with
 |int j=>cases u with
  |int i=>
   obtain rfl:=a;obtain rfl:=q;unfold ji at p;dsimp only at p
   by_cases c:Kt i j=true
   ·rw[ah c]at p;exact .inl ⟨i,j,rfl,rfl,AR i j c,p φ H _ .refl S rfl⟩
   ·rw[aj c]at p;exact p.elim
  |ref n=>
   obtain rfl:=q;unfold ji at p;dsimp only at p;cases e:A[n]? with
   |none=>rw[e]at p;exact p.elim|some o=>cases o with
    |lst xs=>
     rw[e]at p;dsimp only at p;obtain⟨P,v1,rfl,f1,g1,r⟩:=S.lst a e
     by_cases h:(je j&&decide (xs.length * j.toNat<=zQ))=true
     ·rw[ah h]at p
      rw[ak,af]at h;obtain⟨g,B⟩:=gz h.1;refine .inr ⟨P,j,v1,rfl,rfl,g1,by omega,by omega,by rw[<- r.length];exact gA h.2,λl b=>?_⟩
      obtain⟨f,d,C⟩:=gG S b (r.rep j.toNat);exact p _ _ _ f d C
     ·rw[aj h]at p;exact p.elim
    |_=>rw[e]at p;exact p.elim
  |_=>exact p.elim
 |_=>cases u<;>exact p.elim
def kI:W->W->Hx->R W:=λx y A=>match x with
 |.ref n=>match A[n]? with
  |some (.lst ws)=>if ws.length<zQ then .ok .non (A.set n (.lst (ws++[y]))) else .bad|_=>.bad
 |_=>.bad
noncomputable def Yr (x:W)(A:Hx):Bool:=match x with
 |.ref n=>match A[n]? with
  |some (.lst _)=>true|_=>false
 |_=>false
def Dx {A:Hx}{w:W}(S:zL K φ A H)(q:RV K φ H w v)(e:Yr w A=true):GU K "list" v H:=by
 unfold Yr at e;cases w with
 |ref n=>
  dsimp only at e;cases E:A[n]? with
  |none=>rw[E]at e;cases e|some o=>cases o with
   |lst ws=>obtain⟨p,vs,rfl,_,h,_⟩:=S.lst q E;exact .inl ⟨rfl,_,qC.of h⟩|_=>rw[E]at e;cases e
 |_=>cases e
def yK (g:W->W->Hx->R W)(a b:Ev):Ev:=λρ A=>(a ρ A).bind λx A1=>if Yr x A1 then(b ρ A1).bind λy A2=>g x y A2 else .bad
def Ug {nm:Str}{id:String}{r:V->List V->Hp->VK->Prop}{g:W->W->Hx->R W}(slot:Slot "list" nm id)(j:typeOf (.builtin id)=pure (.type "method_descriptor"))(hm:KP X id r)(hn:∀x y A,qJ (g x y A))
  (C:∀φ A H x y u v Q,zL X.K φ A H->RV X.K φ H u x->RV X.K φ H v y->(g u v A).post (PB X.K φ H Q) gR->r x [y] H Q)(B:SE X xr a ma)(he:SE X xr b mb)
  (s:starEach [b] X.env=(false,eval b X.env)::starEach [] X.env)(c:attributeBase a nm X.env (eval a X.env)=eval a X.env)
  (d:((backTo cpos (starEach [b] X.env)).all (λx=>!x.1)&&(backToKw cpos (keywordEach [] X.env)).all (λx=>x.1.isSome)
   && decide ([b].length+([]:cn).length+(if ([]:cn).isEmpty then 0 else 1)<30))=true)(e:(apos.endLine==cpos.line)=true):
  SE X xr (.Call (.Attribute a nm apos) [b] [] cpos) (yK g ma mb):=
 PE.imp (Ma PySem.F.plainAttrs_list slot j hm B (jq he jP s) c d e s (by rfl)) λσ H Q ⟨φ,A,ρ,S,re,h⟩=>by
  refine tM.go S re (z0.mp h) λw A1 o H1 v f l n q=>?_
  by_cases m:Yr w A1=true
  ·rw[ah m]at f
   refine⟨Dx n q m,?_⟩;refine tM.go n (re.mono l) (qt (z0.mp f) (λ_ _ z=>z) λ_ _ z=>z.mono l) λp A2 i I v2 D L E t=>?_;exact C i A2 I v v2 w p Q E (q.mono L) t (qt (JN (hn _ _ _) D) (λ_ _ z=>z.mono (l.trans L)) λ_ _ z=>z)
  ·rw[aj m]at f;exact f.elim
def Eu:∀x y A,qJ (kI x y A):=λx y A=>by
 unfold kI
 split
 ·split
  ·exact wX jy qA
  ·exact qA
 ·exact qA
def Zd:W->W->Hx->R W:=λx y A=>match x,y with
 |.ref n,.int i=>match A[n]? with
  |some (.lst ws)=>match (if je i then seqIndex? i ws.length else none) with
   |some k=>match ws[k]? with
    |some w=>.ok w (A.set n (.lst (ws.eraseIdx k)))|none=>.bad
   |none=>.bad
  |_=>.bad
 |_,_=>.bad
def Ca:∀x y A,qJ (Zd x y A):=λx y A=>by
 unfold Zd
 split
 ·split
  ·split
   ·split
    ·exact jy
    ·exact qA
   ·exact qA
  ·exact qA
 ·exact qA
def wG:W->W->W->Hx->R Unit:=λo i v A=>match o,i with
 |.ref n,.int k=>match A[n]? with
  |some (.lst ws)=>match gq ws.length k with
   |some j=>.ok () (A.set n (.lst (ws.set j v)))|none=>.bad
  |_=>.bad
 |_,_=>.bad
def NQ:∀o i v A,qJ (wG o i v A):=λo i v A=>by
 unfold wG
 split
 ·split
  ·split
   ·exact jy
   ·exact qA
  ·exact qA
 ·exact qA
def Na:Ur K Mb wG:=λφ A H o i v a w wv Q S f d q p=>by
 unfold wG at p;cases a with
 |ref n=>cases w with
  |int k=>
   obtain rfl:=d;dsimp only at p;cases e:A[n]? with
   |none=>rw[e]at p;exact p.elim|some g=>cases g with
    |lst ws=>
     rw[e]at p;dsimp only at p;cases E:gq ws.length k with
     |none=>rw[E]at p;exact p.elim|some j=>
      rw[E]at p;obtain⟨l,vs,rfl,f1,g1,r⟩:=S.lst f e;have ln:Le K φ H φ (upd H l (.lst (vs.set j v))):=Le.upd f1 (λxs z=>by rw[g1]at z;cases z) (λ_ _ z=>by rw[g1]at z;cases z)
      obtain⟨c,b⟩:=S.write (o:=.lst ws) (o':=.lst (ws.set j wv)) e rfl rfl f1 ⟨_,jO,(r.mono ln).set (q.mono ln) j⟩;exact⟨l,vs,k,j,rfl,rfl,g1,by rw[<- r.length];exact E,p _ _ c b⟩
    |_=>rw[e]at p;exact p.elim
  |_=>exact p.elim
 |_=>cases w<;>exact p.elim
variable {es:cc}{m:Ev}
def V5 {id:String}{g:W->Hx->R W}(i:jN X (.builtin id) r)(hn:∀w A,qJ (g w A))(f:KJ X.K (λv=>r [v]) g)(hm:X.mg x=none)(d:bootBuiltins x=some (.builtin id))(j:SE X xr e m)(b:Gl X x:=by rfl)
  (a:x ≠ "__name__":=by decide)(c:(x==("__debug__":Str))=false:=by decide)(he:starEach [e] X.env=(false,eval e X.env)::starEach [] X.env:=by rfl)(l:(backTo pos (starEach [] X.env)).any (·.1)=false:=by rfl):
  SE X xr (.Call (.Name x p) [e] [] pos) (yc g m):=PE.imp (JK i b hm d (jq j jP he) a c he l) λσ H Q h=>yc.read (r:=λv=>r [v]) hn f σ H Q h
def A9 {id:String}{g:W->Hx->R W}(i:jN X (.type id) r)(hn:∀w A,qJ (g w A))(f:KJ X.K (λv=>r [v]) g)(hm:X.mg x=none)(d:bootBuiltins x=some (.type id))(j:SE X xr e m)(b:Gl X x:=by rfl)
  (a:x ≠ "__name__":=by decide)(c:(x==("__debug__":Str))=false:=by decide)(he:starEach [e] X.env=(false,eval e X.env)::starEach [] X.env:=by rfl)(l:(backTo pos (starEach [] X.env)).any (·.1)=false:=by rfl):
  SE X xr (.Call (.Name x p) [e] [] pos) (yc g m):=PE.imp (Qd i b hm d (jq j jP he) a c he l) λσ H Q h=>yc.read (r:=λv=>r [v]) hn f σ H Q h
def V9 {id:String}{g:W->W->Hx->R W}(o:jN X (.builtin id) r)(hn:∀w j A,qJ (g w j A))(n:jY X.K (λv c=>r [v,c]) g)(hm:X.mg x=none)(m:bootBuiltins x=some (.builtin id))(s:SE X xr a ma)(q:SE X xr b mb)(e:Gl X x)
  (d:x ≠ "__name__")(f:(x==("__debug__":Str))=false)(i:starEach [a,b] X.env=(false,eval a X.env)::starEach [b] X.env)(t:starEach [b] X.env=(false,eval b X.env)::starEach [] X.env)(l:(backTo pos (starEach [b] X.env)).any (·.1)=false):
  SE X xr (.Call (.Name x p) [a,b] [] pos) (zi g ma mb):=PE.imp (JK o e hm m (jq s (jq q jP t) i) d f i l) λσ H Q h=>zi.read (r:=λv c=>r [v,c]) hn n σ H Q h
noncomputable def Kx:W->Hx->R W
 |.int i,A=>.ok (.int (if i<0 then -i else i)) A|_,_=>.bad
noncomputable def Jj:W->Hx->R W
 |.int i,A=>.ok (.int i) A|.bl k,A=>.ok (.int (if k then 1 else 0)) A|_,_=>.bad
def V6:=gP λi j=>.int (if j > i then j else i)
def Ga:=gP λi j=>.int (if j<i then j else i)
noncomputable def yo:W->Bool
 |.tup _=>false|.ref _=>false|.clo _ _ _=>false|.xc _=>false|_=>true
noncomputable def Yl:W->W->Bool
 |.non,.non=>true|.bl a,.bl b=>a==b|.bl a,.int b=>(if a then 1 else 0)==b|.int a,.bl b=>a==(if b then 1 else 0)|.int a,.int b=>a==b|.str a,.str b=>a==b|_,_=>false
def Zu (x:W)(xs:List W):Bool:=xs.any λy=>Yl y x
def Wn {w:W}(q:RV K φ H w v)(e:yo w=true):wb v=true:=by
 cases w<;>first
  |(cases e;done)
  |(obtain rfl:=q;rfl)
def R8 {w a:W}{b:V}(q:RV K φ H w v)(Q:RV K φ H a b)(e:yo w=true)(E:yo a=true):gj v b=Yl w a:=by
 cases w<;>cases a<;>first
  |(cases e;done)
  |(cases E;done)
  |(obtain rfl:=q;obtain rfl:=Q;rfl)
theorem P6 {x:W}(q:RV K φ H x v)(e:yo x=true):∀{xs:List W}{vs:List V},zu K φ H xs vs->xs.all yo=true->vs.all wb=true/\GD v vs=Zu x xs
 |[],_,r,_=>by cases r;exact⟨rfl,rfl⟩|w::ws,_,⟨y,r,E,h,t⟩,a=>by
  subst E;rw[all_cons,ak]at a;obtain⟨I,i⟩:=P6 q e t a.2;refine⟨by rw[all_cons,Wn h a.1,I];rfl,?_⟩
  unfold GD Zu at i ⊢;rw[bN,bN,i,R8 h q a.1 e]
def Zn (neg:Bool):W->W->Hx->R W:=λx y A=>match zW y A with
 |some ws=>if yo x&&ws.all yo then .ok (.bl (if neg then !Zu x ws else Zu x ws)) A else .bad|none=>.bad
abbrev yn:=Zn false
abbrev WZ:=Zn true
def Ny {n:Bool}:∀x y A,qJ (Zn n x y A):=λx y A=>by
 unfold Zn
 split
 ·exact wX jy qA
 ·exact qA
def NX {n:Bool}:jY K (UY K n) (Zn n):=λφ A H x y u v Q S q b p=>by
 unfold Zn at p;cases es:zW v A with
 |none=>rw[es]at p;exact p.elim|some ws=>
  rw[es]at p;dsimp only at p
  by_cases hf:(yo u&&ws.all yo)=true
  ·rw[ah hf]at p
   rw[ak]at hf;obtain⟨a,Y,rfl,z,r⟩:=Wg S b es;obtain⟨I,i⟩:=P6 q hf.1 r hf.2;exact⟨a,Y,rfl,z,Wn q hf.1,I,by rw[i];exact p φ H _ .refl S rfl⟩
  ·rw[aj hf]at p;exact p.elim
structure Km (X:Cx)(op:CmpOp)(g:W->W->Hx->R W):Prop where
 ex:∃r:R2,qG X (compareOp op) r/\(∀x y A,qJ (g x y A))/\jY X.K r g
def Ko:Km X .In yn:=⟨_,EI,Ny,NX⟩
def OU:Km X .NotIn WZ:=⟨_,HI,Ny,NX⟩
end
noncomputable def yh (f:W->Option PyData):List W->Option (List PyData)
 |[]=>some []|w::ws=>match f w,yh f ws with
  |some d,some ds=>some (d::ds)|_,_=>none
def qc (A:Hx):Nat->W->Option PyData
 |_,.non=>some .none|_,.bl b=>some (.bool b)|_,.int i=>some (.int i)|_,.str x=>if PyData.strOk x then some (.str x) else none|_,.clo _ _ _=>none|_,.xc _=>none|0,.tup _=>none|0,.ref _=>none|n+1,.tup ws=>(yh (qc A n) ws).map .tuple|n+1,.ref k=>match zW (.ref k) A with
  |some ws=>(yh (qc A n) ws).map .list|none=>none
def Dr {K:Frag}{A:Hx}{us:List W}(S:zL K φ A H)(q:RV K φ H (.ref n) v)(e:zW (.ref n) A=some us):∃a y,v=.ref a/\qC K H a y/\zu K φ H us y:=by
 obtain⟨a,rfl,d⟩:=q;unfold zW at e;dsimp only at e;cases E:A[n]? with
 |none=>rw[E]at e;cases e|some o=>
  rw[E]at e;obtain⟨f,c,r⟩:=S.ob n o E;rw[d]at c;cases c;cases o with
  |lst xs=>cases e;obtain⟨y,b,h⟩:=r;exact⟨a,y,rfl,qC.of b,h⟩|ro xs=>cases e;obtain⟨y,b,h⟩:=r;exact⟨a,y,rfl,b.sq,h⟩|dct xs=>cases e|td _=>cases e|tr _=>cases e|tab _ _=>cases e
section
variable {a:Expr}
theorem X1 {K:Frag}{f:W->Option PyData}(hf:∀w v u d,RV K φ H w v->RelV v u->f w=some d->∃as,Reads h u d as):
  ∀{ws:List W}{vs:List V}{us:b4}{ds:List PyData},zu K φ H ws vs->Vals vs us->yh f ws=some ds->∃as,ReadsAll h us ds as
 |[],_,_,_,r,a,e=>by cases r;cases a;cases e;exact⟨[],.nil⟩|w::ws,_,_,ds,⟨v,r,l,q,t⟩,a,e=>by
  subst l;cases a with
  |cons g c=>
   unfold yh at e;cases E:f w with
   |none=>rw[E]at e;cases e|some d=>
    cases b:yh f ws with
    |none=>rw[E,b]at e;cases e|some D=>
     rw[E,b]at e;cases e;obtain⟨as,j⟩:=hf w v _ d q g E;obtain⟨bs,i⟩:=X1 hf t c b;exact⟨_,.cons j i⟩
def Qe {A:Hx}(I:Inv X pins σ H s)(S:zL X.K φ A H):∀(n:Nat)(w:W)(v:V)(u:Value)(d:PyData),RV X.K φ H w v->RelV v u->qc A n w=some d->∃as,Reads s.heap u d as:=by
 intro n
 induction n with
 |zero=>
  intro w v u d q r e;cases w with
  |non=>obtain rfl:=q;cases r;cases e;exact⟨_,.none⟩|bl k=>obtain rfl:=q;cases r;cases e;exact⟨_,.bool k⟩|int k=>obtain rfl:=q;obtain⟨t,rfl⟩:=r;cases e;exact⟨_,.int k t⟩|str k=>
   obtain rfl:=q;obtain⟨t,rfl⟩:=r;unfold qc at e
   split at e
   ·cases e;exact⟨_,.str k t⟩
   ·cases e
  |tup _=>cases e|ref _=>cases e|clo _ _ _=>unfold qc at e;cases e|xc _=>unfold qc at e;cases e
 |succ n p=>
  intro w v u d q r e;cases w with
  |non=>obtain rfl:=q;cases r;cases e;exact⟨_,.none⟩|bl k=>obtain rfl:=q;cases r;cases e;exact⟨_,.bool k⟩|clo _ _ _=>unfold qc at e;cases e|xc _=>unfold qc at e;cases e|int k=>obtain rfl:=q;obtain⟨t,rfl⟩:=r;cases e;exact⟨_,.int k t⟩|str k=>
   obtain rfl:=q;obtain⟨t,rfl⟩:=r;unfold qc at e
   split at e
   ·cases e;exact⟨_,.str k t⟩
   ·cases e
  |tup ws=>
   obtain⟨a,vs,rfl,h,c⟩:=q;cases r;unfold qc at e;cases E:yh (qc A n) ws with
   |none=>rw[E]at e;cases e|some ds=>
    rw[E]at e;cases e;obtain⟨i,b,⟨o,l,j,k,g⟩,_⟩:=I.tuple h;obtain⟨as,f⟩:=X1 p c b E;exact⟨_,.tuple l j g (by simpa using f)⟩
  |ref k=>
   unfold qc at e;cases E:zW (.ref k) A with
   |none=>rw[E]at e;cases e|some ws=>
    rw[E]at e;dsimp only at e;obtain⟨a,y,rfl,h,c⟩:=Dr S q E;cases r;cases m:yh (qc A n) ws with
    |none=>rw[m]at e;cases e|some ds=>
     rw[m]at e;cases e;obtain⟨i,b,⟨o,x,l,j,_,g⟩,_⟩:=I.list h;obtain⟨as,f⟩:=X1 p c b m;exact⟨_,.list l j g (by simpa using f)⟩
def Wl {A:Hx}:∀(n:Nat)(w:W)(d:PyData),qc A n w=some d->d.canLay0=true/\d.depth<=n:=by
 intro n;have lst:∀{n:Nat},(∀(w:W)(d:PyData),qc A n w=some d->d.canLay0=true/\d.depth<=n)->∀(ws:List W)(ds:List PyData),yh (qc A n) ws=some ds->PyData.canLayAll0 ds=true/\PyData.depthAll ds<=n:=by
  intro n i ws
  induction ws with
  |nil=>intro ds e;cases e;exact⟨by simp[PyData.canLayAll0],by simp[PyData.depthAll]⟩|cons w ws I=>
   intro ds e;unfold yh at e;cases E:qc A n w with
   |none=>rw[E]at e;cases e|some d=>
    cases b:yh (qc A n) ws with
    |none=>rw[E,b]at e;cases e|some D=>
     rw[E,b]at e;cases e;obtain⟨h,c⟩:=i w d E;obtain⟨f,g⟩:=I D b;refine⟨by simp[PyData.canLayAll0,h,f],?_⟩
     simp only[PyData.depthAll];omega
 induction n with
 |zero=>
  intro w d e;cases w with
  |tup _=>cases e|ref _=>cases e|clo _ _ _=>unfold qc at e;cases e|xc _=>unfold qc at e;cases e|str x=>
   unfold qc at e
   split at e
   ·rename_i H;cases e;exact⟨by simp[PyData.canLay0,H],by simp[PyData.depth]⟩
   ·cases e
  |_=>cases e;exact⟨by simp[PyData.canLay0],by simp[PyData.depth]⟩
 |succ n i=>
  intro w d e;cases w with
  |clo _ _ _=>unfold qc at e;cases e|xc _=>unfold qc at e;cases e|tup ws=>
   unfold qc at e;cases a:yh (qc A n) ws with
   |none=>rw[a]at e;cases e|some ds=>
    rw[a]at e;cases e;obtain⟨h,c⟩:=lst i ws ds a;refine⟨by simp[PyData.canLay0,h],?_⟩
    simp only[PyData.depth];omega
  |ref k=>
   unfold qc at e;cases a:zW (.ref k) A with
   |none=>rw[a]at e;cases e|some ws=>
    rw[a]at e;dsimp only at e;cases E:yh (qc A n) ws with
    |none=>rw[E]at e;cases e|some ds=>
     rw[E]at e;cases e;obtain⟨h,c⟩:=lst i ws ds E;refine⟨by simp[PyData.canLay0,h],?_⟩
     simp only[PyData.depth];omega
  |str x=>
   unfold qc at e
   split at e
   ·rename_i H;cases e;exact⟨by simp[PyData.canLay0,H],by simp[PyData.depth]⟩
   ·cases e
  |_=>cases e;exact⟨by simp[PyData.canLay0],by simp[PyData.depth]⟩
def kD (neg:Bool):W->W->Hx->R W:=λx y A=>match qc A 8 x,qc A 8 y with
 |some d,some d'=>.ok (.bl (if neg then !PyData.eqv d d' else PyData.eqv d d')) A|_,_=>.bad
abbrev jd:=kD false
abbrev qR:=kD true
def Nu {n:Bool}:∀x y A,qJ (kD n x y A):=λx y A=>by
 unfold kD
 split
 ·exact jy
 ·exact qA
def UE (K:Frag)(neg:Bool):R2:=λx y H Q=>∃φ A u v d d',zL K φ A H/\RV K φ H u x/\RV K φ H v y/\qc A 8 u=some d/\qc A 8 v=some d'/\Q (.bl (if neg then !PyData.eqv d d' else PyData.eqv d d')) H
def WS {A:Hx}{w:W}{d:PyData}(h:qc A 8 w=some d):SeqAt.shaped d=true:=by
 obtain⟨H,a⟩:=Wl 8 w d h;unfold SeqAt.shaped;rw[H,Bool.true_and,af];omega
def eT (g:X.A.units+64<cLine):qG X (compareOp .Eq) (UE X.K false):=by
 intro pins s σ H x y v u Q I b r h;obtain⟨φ,A,a,w,d,d',S,f,c,E,e,q⟩:=h;obtain⟨as,j⟩:=Qe I S 8 a x v d f b E;obtain⟨bs,i⟩:=Qe I S 8 w y u d' c r e;exact eq_dataH j i (WS E) (WS e) g ⟨.bl _,H,I,rfl,q⟩
def eU (g:X.A.units+64<cLine):qG X (compareOp .NotEq) (UE X.K true):=by
 intro pins s σ H x y v u Q I b r h;obtain⟨φ,A,a,w,d,d',S,f,c,E,e,q⟩:=h;obtain⟨as,j⟩:=Qe I S 8 a x v d f b E;obtain⟨bs,i⟩:=Qe I S 8 w y u d' c r e;exact ne_dataH j i (WS E) (WS e) g ⟨.bl _,H,I,rfl,q⟩
def OB {K:Frag}{n:Bool}:jY K (UE K n) (kD n):=λφ A H x y u v Q S a q p=>by
 unfold kD at p;cases e:qc A 8 u with
 |none=>rw[e]at p;exact p.elim|some d=>
  cases E:qc A 8 v with
  |none=>rw[e,E]at p;exact p.elim|some d'=>
   rw[e,E]at p;exact⟨φ,A,u,v,d,d',S,a,q,e,E,p φ H _ .refl S rfl⟩
def ka {k:Nat}(h:jx k X.A):ky X .Eq jd:=ZM (eT h.units) Nu OB
def kL {k:Nat}(h:jx k X.A):ky X .NotEq qR:=ZM (eU h.units) Nu OB
end
mutual
noncomputable def W.nr:W->Bool
 |.tup ws=>qH ws|.ref _=>false|.clo _ ws _=>qH ws|_=>true
noncomputable def qH:List W->Bool
 |[]=>true|w::ws=>w.nr&&qH ws
end
def iso (f:Fn):Fn:=λus A=>if qH us then(match f us [] with
 |.ok w A1=>(match w with
  |.ref n=>(match A1[n]? with
   |some (.lst ws)=>if qH ws then .ok (.ref A.length) (A++[.lst ws]) else .bad|some (.dct kvs)=>if qH (kvs.map (·.2)) then .ok (.ref A.length) (A++[.dct kvs]) else .bad|_=>.bad)
  |w=>if w.nr then .ok w A else .bad)
 |_=>.bad) else .bad
def Zp (f:Fn):Fn:=λus A=>match us with
 |.ref n::us=>(match A[n]? with
  |some (.lst ws)=>if qH ws&&qH us then(match f (.ref 0::us) [.lst ws] with
   |.ok w A1=>(match (List.head? A1:Option O) with
    |some (.lst a)=>if qH a&&w.nr then .ok w (A.set n (.lst a)) else .bad|_=>.bad)
   |_=>.bad) else .bad
  |_=>.bad)
 |_=>.bad
section
variable {K:Frag}{φ' φ1:b5}{H' H1:Hp}{A A1:Hx}
mutual
theorem RV.nrm (tp:∀a vs,qw K H a vs->qw K H' a vs)(fz:∀a o u,H a=some (.frz o u)->H' a=some (.frz o u)):∀{w:W}{v:V},w.nr=true->RV K φ H w v->RV K φ' H' w v
 |.non,_,_,h=>h|.bl _,_,_,h=>h|.int _,_,_,h=>h|.str _,_,_,h=>h|.tup ws,_,n,⟨a,vs,e,t,r⟩=>⟨a,vs,e,tp _ _ t,zu.nrm tp fz n r⟩|.ref _,_,n,_=>nomatch n
 |.clo _ ws P,_,n,⟨a,ob,u,c,g,U,vs,e,d,b,i,r⟩=>⟨a,ob,u,c,g,U,vs,e,fz _ _ _ d,fz _ _ _ b,i,zu.nrm tp fz n r⟩|.xc _,_,_,⟨a,f,u,C,e,d,b⟩=>⟨a,f,u,C,e,fz _ _ _ d,b⟩
theorem zu.nrm (tp:∀a vs,qw K H a vs->qw K H' a vs)(fz:∀a o u,H a=some (.frz o u)->H' a=some (.frz o u)):∀{ws:List W}{vs:List V},qH ws=true->zu K φ H ws vs->zu K φ' H' ws vs
 |[],_,_,h=>h|w::ws,_,n,⟨v,r,e,h,t⟩=>by
  have N:(w.nr&&qH ws)=true:=n;rw[ak]at N;exact⟨v,r,e,RV.nrm tp fz N.1 h,zu.nrm tp fz N.2 t⟩
end
def zL.none:zL K [] [] H:=⟨rfl,λi j a o o' _ _ h=>by simp at h,λn o h=>by simp at h⟩
def zL.frame (S:zL K φ A H)(k:∀a o,H a=some o->H1 a=some o)(l:Le K φ H φ H1):zL K φ A H1:=
 ⟨S.len,S.inj,λn o e=>let ⟨a,h1,q⟩:=S.ob n o e;⟨a,h1,q.keep l λu h=>k a u h⟩⟩
def Le.apart (l:Le K [] H φ1 H1):Le K φ H φ H1/\∀a o,H a=some o->H1 a=some o:=
 have k:∀a o,H a=some o->H1 a=some o:=λa o h=>l.fr a o h λn e=>by simp at e
 ⟨⟨λ_ _ h=>h,l.tp,λa o h _=>k a o h,λ_ _ h=>.inl h,l.st,l.fz⟩,k⟩
def zL.trackN {u:HO}{o:O}(S:zL K φ A H)(I:H D=some u)(n:∀(k:Nat)(q:O),φ[k]? =some D->A[k]? =some q->q.mut=false)(new:OR K (φ++[D]) H D o):zL K (φ++[D]) (A++[o]) H:=by
 have l:Z4 K φ H (φ++[D]) H:=⟨λn a h=>by
  have:=(cA.mp h).1
  rw[ai this];exact h,λ_ _ h=>h,λ_ _ _ h=>h⟩
 have old:∀(i:Nat) a,(φ++[D])[i]? =some a->i<A.length->φ[i]? =some a:=λi a e f=>by
  rw[ai (by rw[S.len];exact f)]at e;exact e
 have last:∀a,(φ++[D])[A.length]? =some a->a=D:=λa e=>by
  rw[ar (by rw[S.len];exact ao _),S.len]at e
  simpa using e.symm
 refine⟨by simp[S.len],λi j a C B y w g b m1 m2=>?_,λk o' e=>?_⟩
 ·by_cases f:i<A.length
  ·rw[ai f]at g
   by_cases c:j<A.length
   ·rw[ai c]at b
    exact S.inj i j a C B (old i a y f) (old j a w c) g b m1 m2
   ·exfalso
    have s:j=A.length:=by have:=(cA.mp b).1;simp at this;omega
    subst s;have z:=n i C (by rw[<- last a w];exact old i a y f) g
    rw[m1]at z;cases z
  ·have v:i=A.length:=by have:=(cA.mp g).1;simp at this;omega
   by_cases c:j<A.length
   ·exfalso
    rw[ai c]at b;subst v;have z:=n j B (by rw[<- last a y];exact old j a w c) b
    rw[m2]at z;cases z
   ·have:=(cA.mp b).1;simp at this;omega
 ·by_cases hn:k<A.length
  ·rw[ai hn]at e
   obtain⟨a,E,q⟩:=S.ob k o' e;refine⟨a,l.ex _ _ E,?_⟩;cases o' with
   |lst ws=>obtain⟨vs,z,r⟩:=q;exact⟨vs,z,r.monoW l⟩|dct ws=>obtain⟨vs,z,Z,r⟩:=q;exact⟨vs,z,Z,r.monoW l⟩|td _=>obtain⟨vs,z,Z,t,r⟩:=q;exact⟨vs,z,Z,λx m=>l.tp _ _ (t x m),r.monoW l⟩|tr _=>obtain⟨ob,u,vs,z,d,Z,t,r⟩:=q;exact⟨ob,u,vs,z,d,Z,λx m=>l.tp _ _ (t x m),r.monoW l⟩|tab _ _=>exact q|ro ws=>obtain⟨vs,z,r⟩:=q;exact⟨vs,z,r.monoW l⟩
  ·have p:k=A.length:=by have:=(cA.mp e).1;simp at this;omega
   subst p;rw[ar (ao _)]at e;simp at e;subst e;exact⟨D,by rw[ar (by rw[S.len];exact ao _),S.len];simp,new⟩
def zL.adopt {o:O}(S:zL K φ A H)(l:Le K [] H φ1 H1)(d:φ1[n]? =some a)(m:∃u,H1 a=some u)(new:OR K (φ++[a]) H1 a o):
  Le K φ H (φ++[a]) H1/\zL K (φ++[a]) (A++[o]) H1/\RV K (φ++[a]) H1 (.ref A.length) (.ref a):=by
 obtain⟨L,k⟩:=l.apart (φ:=φ);have h0:H a=Option.none:=by
  rcases l.nw n a d with e|e
  ·simp at e
  ·exact e
 obtain⟨u,b⟩:=m;have s:=S.frame k L;refine⟨L.track h0,s.trackN b (λk q g f=>?_) new,a,rfl,by rw[<- S.len];simp⟩
 cases c:q.mut with
 |false=>rfl|true=>
  obtain⟨i,E,r⟩:=S.ob k q f;rw[g]at E;cases E;obtain⟨z,h,_⟩:=r.there c;rw[h0]at h;cases h
def OR.nrL {ws:List W}(h:OR K φ H a (.lst ws))(n:qH ws=true):OR K φ' H a (.lst ws):=let ⟨vs,e,r⟩:=h;⟨vs,e,r.nrm (λ_ _ t=>t) (λ_ _ _ t=>t) n⟩
def OR.nrD {kvs:List (Key×W)}(h:OR K φ H a (.dct kvs))(n:qH (kvs.map (·.2))=true):OR K φ' H a (.dct kvs):=let ⟨vs,e,E,r⟩:=h;⟨vs,e,E,r.nrm (λ_ _ t=>t) (λ_ _ _ t=>t) n⟩
theorem zK.iso {k:Nat}{f:Fn}(F:zK P w K mg base k x n f):zK P w K mg base k x n (iso f):=by
 obtain⟨D,fd,z,F,a,b,c⟩:=F;refine⟨D,fd,z,F.imp λvs H Q E ⟨C,φ,A,ws,S,r,q⟩=>?_,a,b,c⟩;unfold Mi.iso at q
 by_cases hn:qH ws=true
 ·rw[ah hn]at q
  refine⟨C,[],[],ws,zL.none,r.nrm (λ_ _ t=>t) (λ_ _ _ t=>t) hn,?_⟩;cases hf:f ws [] with
  |ok w A1=>
   rw[hf]at q;dsimp only at q;intro u H1 v L I g;cases w with
   |ref m=>
    dsimp only at q;cases hm:A1[m]? with
    |none=>rw[hm]at q;exact q.elim|some o=>
     rw[hm]at q;obtain⟨J,i,d⟩:=I.ob m o hm;obtain⟨a2,rfl,e⟩:=g;rw[i]at e;cases e;cases o with
     |lst us=>
      dsimp only at q
      by_cases h:qH us=true
      ·rw[ah h]at q
       obtain⟨t,ht,_⟩:=d.there rfl;obtain⟨p,j,B⟩:=S.adopt L i ⟨t,ht⟩ (o:=.lst us) (d.nrL h);exact q _ _ _ p j B
      ·rw[aj h]at q;exact q.elim
     |dct us=>
      dsimp only at q
      by_cases h:qH (us.map (·.2))=true
      ·rw[ah h]at q
       obtain⟨t,ht,_⟩:=d.there rfl;obtain⟨p,j,B⟩:=S.adopt L i ⟨t,ht⟩ (o:=.dct us) (d.nrD h);exact q _ _ _ p j B
      ·rw[aj h]at q;exact q.elim
     |ro us=>exact q.elim|td _=>exact q.elim|tr _=>exact q.elim|tab _ _=>exact q.elim
   |_=>
    all_goals
     dsimp only at q;obtain⟨l,s⟩:=L.apart (φ:=φ)
     first
      |exact q φ H1 v l (S.frame s l) g
      |(
        split at q
        ·rename_i hw
         exact q φ H1 v l (S.frame s l) (RV.nrm (λ_ _ t=>t) (λ_ _ _ t=>t) hw g)
        ·exact q.elim)
  |exc y A1=>rw[hf]at q;exact q.elim|bad=>rw[hf]at q;exact q.elim
 ·rw[aj hn]at q;exact q.elim
theorem zK.Zp {k:Nat}{f:Fn}(F:zK P w K mg base k x n f):zK P w K mg base k x n (Zp f):=by
 obtain⟨fa,fd,ps,F,a,b,c⟩:=F;refine⟨fa,fd,ps,F.imp λvs H Q E ⟨hl,φ,A,ws,S,r,q⟩=>?_,a,b,c⟩;unfold Mi.Zp at q;cases ws with
 |nil=>exact q.elim|cons w0 us=>cases w0 with
  |ref n=>
   dsimp only at q;cases l:A[n]? with
   |none=>rw[l]at q;exact q.elim|some o=>cases o with
    |lst xs=>
     rw[l]at q;dsimp only at q
     by_cases hn:(qH xs&&qH us)=true
     ·rw[ah hn]at q
      rw[ak]at hn;obtain⟨v0,vr,rfl,q0,qr⟩:=r;obtain⟨p,Y,rfl,f1,g1,g⟩:=S.lst q0 l;have S0:zL K [p] [.lst xs] H:=by
       refine⟨rfl,λi j a o o' J I X T _ _=>?_,λm o e=>?_⟩
       ·have:=(cA.mp J).1
        have:=(cA.mp I).1
        simp at*;omega
       ·have:m=0:=by have:=(cA.mp e).1;simp at this;omega
        subst this;simp at e;subst e;exact⟨p,rfl,Y,g1,g.nrm (λ_ _ t=>t) (λ_ _ _ t=>t) hn.1⟩
      refine⟨hl,[p],[.lst xs],.ref 0::us,S0,.cons ⟨p,rfl,rfl⟩ (qr.nrm (λ_ _ t=>t) (λ_ _ _ t=>t) hn.2),?_⟩;cases hf:f (.ref 0::us) [.lst xs] with
      |ok w A1=>
       rw[hf]at q;dsimp only at q;intro B H1 v L S1 q1;cases h0:List.head? A1 with
       |none=>rw[h0]at q;exact q.elim|some o=>cases o with
        |lst zs=>
         rw[h0]at q;dsimp only at q
         by_cases hw:(qH zs&&w.nr)=true
         ·rw[ah hw]at q
          rw[ak]at hw;have apart:∀a o,a≠p->H a=some o->H1 a=some o:=λa o ne h=>L.fr a o h λm e=>by
           have:m=0:=by have:=(cA.mp e).1;simp at this;omega
           subst this;simp at e;exact ne e.symm
          have lf:Le K φ H φ H1:=⟨λ_ _ h=>h,L.tp,λa o h nn=>apart a o (λe=>nn n (by rw[e];exact f1)) h,λ_ _ h=>.inl h,L.st,L.fz⟩
          have hp:B[0]? =some p:=L.ex 0 p rfl;obtain⟨p',s,U,M,D⟩:=S1.ob 0 _ (by rw[<- List.head?_eq_getElem?];exact h0)
          rw[hp]at s;cases s;refine q φ H1 v lf ?_ (RV.nrm (λ_ _ t=>t) (λ_ _ _ t=>t) hw.2 q1);have mt:∀(i:Nat)(w:O),(A.set n (.lst zs))[i]? =some w->w.mut=true->∃N,A[i]? =some N/\N.mut=true:=λi w e mw=>by
           by_cases hi:i=n
           ·subst hi;exact⟨_,l,rfl⟩
           ·rw[aP (Ne.symm hi)]at e;exact⟨w,e,mw⟩
          refine⟨by simp[S.len],λi j a o1 o2 J I X T m1 m2=>?_,λi w e=>?_⟩
          ·obtain⟨w1,s,k1⟩:=mt i o1 X m1
           obtain⟨Z,M,k2⟩:=mt j o2 T m2;exact S.inj i j a w1 Z J I s M k1 k2
          ·by_cases hi:i=n
           ·subst hi
            have:i<A.length:=(cA.mp l).1
            rw[aT this]at e;cases e;exact⟨p,f1,U,M,D.nrm (λ_ _ t=>t) (λ_ _ _ t=>t) hw.1⟩
           ·rw[aP (Ne.symm hi)]at e
            obtain⟨a,s,C⟩:=S.ob i w e;refine⟨a,s,?_⟩
            by_cases hm:w.mut=true
            ·have ne:a≠p:=λz=>hi (S.inj i n a w _ s (by rw[z];exact f1) e l hm rfl)
             exact C.keep lf λz hz=>apart a z ne hz
            ·cases w with
             |lst _=>exact absurd rfl hm|dct _=>exact absurd rfl hm|td _=>exact absurd rfl hm|tr _=>obtain⟨ob,u,vs,q,d,k,t,r⟩:=C;exact⟨ob,u,vs,lf.fz _ _ _ q,d,k,λx hx=>lf.tp _ _ (t x hx),r.mono lf⟩|tab _ _=>exact absurd rfl hm|ro ws=>
              obtain⟨vs,g,D⟩:=C;refine⟨vs,?_,D.mono lf⟩;rcases g with ⟨ob,g⟩|g
              ·refine .inl ⟨ob,apart a _ ?_ g⟩
               intro z;subst z;rw[g1]at g;cases g
              ·exact .inr g
         ·rw[aj hw]at q;exact q.elim
        |_=>rw[h0]at q;exact q.elim
      |exc y A1=>rw[hf]at q;exact q.elim|bad=>rw[hf]at q;exact q.elim
     ·rw[aj hn]at q;exact q.elim
    |_=>rw[l]at q;exact q.elim
  |_=>exact q.elim
end
section
variable {K:Frag}{a b:Expr}{es:cc}{m:Ev}{st:Stmt}
noncomputable def Yi:Ex:=λ_ _=>.bad
noncomputable def intsOf:List W->Option (b3)
 |[]=>some []|w::ws=>match w with
  |.int i=>match intsOf ws with
   |some is=>some (i::is)|none=>none
  |_=>none
theorem Qc:∀{ws:List W}{ns:b3},intsOf ws=some ns->ws=ns.map W.int
 |[],_,e=>by cases e;rfl|w::ws,ns,e=>by
  unfold intsOf at e;cases w with
  |int i=>
   dsimp only at e;cases E:intsOf ws with
   |none=>rw[E]at e;cases e|some is=>rw[E]at e;cases e;rw[Qc E];rfl
  |_=>cases e
noncomputable def yb:List Int->Int->Int
 |[],m=>m|i::is,m=>yb is (if i > m then i else m)
noncomputable def yL:List Int->Int->Int
 |[],m=>m|i::is,m=>yL is (m+i)
def preSum_eq (ns:b3):∀k,preSum (λi=>ns.getD i 0) k+yL (ns.drop k) 0=yL ns 0∨ns.length<k:=by
 have add:∀(l:b3)(m:Int),yL l m=m+yL l 0:=λl=>by
  induction l with
  |nil=>intro m;show m=m+0;omega|cons i is I=>intro m;show yL is (m+i)=m+yL is (0+i);rw[I (m+i),I (0+i)];omega
 intro k
 induction k with
 |zero=>left;show(0:Int)+yL ns 0=_;omega|succ k I=>
  rcases I with I|I
  ·by_cases h:k<ns.length
   ·left
    have e:ns.drop k=ns[k]::ns.drop (k+1):=bb h;rw[e]at I;have a:yL (ns[k]::ns.drop (k+1)) 0=ns[k]+yL (ns.drop (k+1)) 0:=by show yL (ns.drop (k+1)) (0+ns[k])=_;rw[add];omega
    rw[a]at I;show preSum _ k+ns.getD k 0+_=_;have E:ns.getD k 0=ns[k]:=by rw[ab,aa h];rfl
    rw[E];omega
   ·right;omega
  ·right;omega
def Fx (ns:b3):preSum (λi=>ns.getD i 0) ns.length=yL ns 0:=by
 rcases preSum_eq ns ns.length with h|h
 ·rw[drop_length]at h
  have:yL [] 0=0:=rfl
  omega
 ·omega
def F8 (ns:b3):∀(k:Nat)(a:k<ns.length),yb (ns.drop (k+1)) (ns.getD (argBest (λi j=>decide (ns.getD i 0 > ns.getD j 0)) k) 0)=yb ns.tail (ns.getD 0 0):=by
 intro k
 induction k with
 |zero=>intro _;rw[show argBest _ 0=0 from rfl,List.drop_one]|succ k I=>
  intro a;have H:k<ns.length:=by omega
  rw[<- I H];have e:ns.drop (k+1)=ns[k+1]::ns.drop (k+1+1):=bb a;rw[e];have E:ns.getD (k+1) 0=ns[k+1]:=by rw[ab,aa a];rfl
  show yb _ (ns.getD (if decide (ns.getD (k+1) 0 > ns.getD (argBest _ k) 0)=true then k+1 else argBest _ k) 0)=yb _ (if ns[k+1] > ns.getD (argBest _ k) 0 then ns[k+1] else ns.getD (argBest _ k) 0);rw[E]
  by_cases h:ns[k+1] > ns.getD (argBest (λi j=>decide (ns.getD i 0 > ns.getD j 0)) k) 0
  ·rw[ah (by rw[af];exact h),ah h,E]
  ·rw[aj (by rw[af];exact h),aj h]
noncomputable def Gd (K:Frag)(C:List Int->Prop)(f:List Int->Int):List V->Hp->VK->Prop:=λxs H Q=>∃a ns,xs=[.ref a]/\(qC K H a (ns.map V.int)∨qw K H a (ns.map V.int))/\C ns/\Q (.int (f ns)) H
def WI (r:Vals (ns.map V.int) its){v:Value}(h:its[i]? =some v):∃t,v=.int (ns.getD i 0) t:=by
 have c:i<its.length:=(cA.mp h).1;have H:i<ns.length:=by have:=r.length;rw[ag]at this;omega
 obtain⟨u,a,b⟩:=r.get (i:=i) (x:=V.int ns[i]) (by simp[H])
 rw[h]at a;cases a;obtain⟨t,rfl⟩:=b;exact⟨t,by rw[ab,aa H];rfl⟩
def F9 (f:X.calm=true):jN X (.builtin "sum") (Gd X.K (λ_=>True) λns=>yL ns 0):=by
 intro pins s σ H xs us Q I r h;obtain⟨a,ns,rfl,z,_,q⟩:=h;obtain⟨u,rfl,d⟩:=vals1 r;cases d;refine call_sum_walkG (Va I f z λb g fp wr S s2 c j W st p back=>?_);refine⟨g,fp,wr,_,_,S,λi=>ns.getD i 0,rfl,W,st,p,λi v h=>WI c h,λh' tk t' k=>?_⟩;have e:b.length=ns.length:=by have:=c.length;rw[ag]at this;omega
 rw[e,Fx];exact⟨.int _,H,back h' tk k,⟨_,rfl⟩,q⟩
def Ew (n:X.calm=true):jN X (.builtin "max") (Gd X.K (λns=>ns≠[]) λns=>yb ns.tail (ns.getD 0 0)):=by
 intro pins s σ H xs us Q I r h;obtain⟨a,ns,rfl,z,f,q⟩:=h;obtain⟨u,rfl,l⟩:=vals1 r;cases l;have M:0<ns.length:=List.length_pos_iff.mpr f;refine call_max_walk (Va I n z λd C fp wr S s2 c L W st p back=>?_);have e:d.length=ns.length:=by have:=c.length;rw[ag]at this;omega
 refine⟨C,fp,wr,_,_,S,λi j=>decide (ns.getD i 0 > ns.getD j 0),rfl,W,st,p,by omega,?_,λv h' tk m k=>?_⟩
 ·intro i j J D g Q' E y x o
  obtain⟨t1,rfl⟩:=WI c y;obtain⟨T,rfl⟩:=WI c x;exact(PyProof.Rows.gt_int o:wpAny (model X.prog X.w) X.A.in1 (compareOp .Gt (.int (ns.getD i 0) t1) (.int (ns.getD j 0) T)) Q' E g)
 ·obtain⟨t,rfl⟩:=WI c m
  rw[e];have b:=F8 ns (ns.length-1) (by omega)
  rw[show ns.length-1+1=ns.length by omega,drop_length]at b
  have B:ns.getD (argBest (λi j=>decide (ns.getD i 0 > ns.getD j 0)) (ns.length-1)) 0=yb ns.tail (ns.getD 0 0):=b;rw[B];exact⟨.int _,H,back h' tk k,⟨_,rfl⟩,q⟩
def yw:List W->Hx->R W:=λws A=>match intsOf ws with
 |some (i::is)=>.ok (.int (yb is i)) A|_=>.bad
def w9:List W->Hx->R W:=λws A=>match intsOf ws with
 |some is=>.ok (.int (yL is 0)) A|none=>.bad
def eV:∀ws A,qJ (yw ws A):=λws A=>by
 unfold yw;split
 ·exact jy
 ·exact qA
def eW:∀ws A,qJ (w9 ws A):=λws A=>by
 unfold w9;split
 ·exact jy
 ·exact qA
def Pm {ws:List W}{a:Addr}(z:qC K H a ys∨qw K H a ys)(r:zu K φ H ws ys)(e:intsOf ws=some ns):qC K H a (ns.map V.int)∨qw K H a (ns.map V.int):=by
 rw[Qc e]at r;rw[<- zu.ints.mp r];exact z
def BA:QG K (Gd K (λns=>ns≠[]) λns=>yb ns.tail (ns.getD 0 0)) yw:=λφ A H a y ws Q S z r p=>by
 unfold yw at p;cases e:intsOf ws with
 |none=>rw[e]at p;exact p.elim|some ns=>cases ns with
  |nil=>rw[e]at p;exact p.elim|cons i is=>rw[e]at p;exact⟨a,i::is,rfl,Pm z r e,(by intro z;cases z),p φ H _ .refl S rfl⟩
def AV:QG K (Gd K (λ_=>True) λns=>yL ns 0) w9:=λφ A H a y ws Q S z r p=>by
 unfold w9 at p;cases e:intsOf ws with
 |none=>rw[e]at p;exact p.elim|some ns=>rw[e]at p;exact⟨a,ns,rfl,Pm z r e,trivial,p φ H _ .refl S rfl⟩
def Jf (y:W):List W->Nat->Nat
 |[],n=>n|w::ws,n=>Jf y ws (if Yl w y then n+1 else n)
theorem Nj (y:W):∀(ws:List W)(n:Nat),Jf y ws n=n+ws.countP λw=>Yl w y
 |[],n=>by simp[Jf]|w::ws,n=>by
  show Jf y ws _=_;rw[Nj y ws,bM]
  by_cases h:Yl w y=true
  ·rw[ah h,ah h];omega
  ·rw[aj h,aj h];omega
def Y5:W->W->Hx->R W:=λx y A=>match x with
 |.tup ws=>if yo y&&ws.all yo then .ok (.int (Jf y ws 0)) A else .bad|_=>.bad
def eX (K:Frag):V->List V->Hp->VK->Prop:=λx vs H Q=>∃a xs y,x=.ref a/\vs=[y]/\qw K H a xs/\wb y=true/\xs.all wb=true/\Q (.int (xs.countP λz=>gj z y)) H
theorem RJ {y:V}:∀{xs:List V}{us:b4},Vals xs us->xs.all wb=true->us.countP (kj y)=xs.countP λz=>gj z y
 |_,_,.nil,_=>rfl|_,_,.cons r t,h=>by
  rw[all_cons,ak]at h;rw[bM,bM,RJ t h.2,VA r h.1]
def Cg:KP X "tuple.count" (eX X.K):=by
 intro pins s σ H x vs v us Q I b d h;obtain⟨a,xs,y,rfl,rfl,ht,j,f,q⟩:=h;cases b;obtain⟨u,rfl,e⟩:=d.one;obtain⟨i,r,pp,_⟩:=I.tuple ht;obtain⟨⟨cls,D,data,S⟩,o,c,n,hd⟩:=id pp;simp only at c hd;subst c hd;refine call_meets F.slot_tuple_count ⟨_,o,rfl⟩ F.entry_tuple_count (F.args_tuple_count_2 _ _) (SeqAt.tuple_countAt a i.toArray n D S u (kj y)) ⟨o,λz g=>JI e j r f z (by simpa using g),?_⟩
 refine⟨.int _,H,I.tok _,⟨_,rfl⟩,?_⟩;rw[<- RJ r f]at q;simpa using q
noncomputable def W5 (g:W->W->Hx->R W)(a b:Ev):Ev:=λρ A=>(a ρ A).bind λx A1=>match x with
 |.tup ws=>(b ρ A1).bind λy A2=>g (.tup ws) y A2|_=>.bad
noncomputable def eY (K:Frag)(r:V->List V->Hp->VK->Prop)(to:TE)(t:TA):TE:=λσ H Q=>to σ H λx H1=>∃p y,x=.ref p/\qw K H1 p y/\t σ H1 λxs h=>r x xs h Q
def eZ {o:Expr}{to:TE}{t:TA}{name:Str}{id:String}{r:V->List V->Hp->VK->Prop}(slot:Slot "tuple" name id)(y:typeOf (.builtin id)=pure (.type "method_descriptor"))(hm:KP X id r)(m:PE X o to)(u:PA X (e::es) t)
  (c:attributeBase o name X.env (eval o X.env)=eval o X.env)
  (w:((backTo cpos (starEach (e::es) X.env)).all (λx=>!x.1)&&(backToKw cpos (keywordEach [] X.env)).all (λx=>x.1.isSome)
   && decide ((e::es).length+([]:cn).length+(if ([]:cn).isEmpty then 0 else 1)<30))=true)
  (b:(apos.endLine==cpos.line)=true)(l:starEach (e::es) X.env=(false,eval e X.env)::starEach es X.env)(n:(backTo cpos (starEach es X.env)).any (·.1)=false):
  PE X (.Call (.Attribute o name apos) (e::es) [] cpos) (eY X.K r to t):=by
 intro pins s σ H Q I h;refine wpAny_Call_method_late c w b rfl (zU (m pins s σ H _ I h) λv s1 ⟨x,H1,i,f,p,Y,E,ty,g⟩=>?_);subst E;cases f;obtain⟨j,_,pp,_⟩:=i.tuple ty;refine⟨"tuple",id,PySem.F.plainAttrs_tuple,slot,y,pp.typeIs,λa z=>by cases z;exact i.tupleN ty,?_⟩
 have A:=u cpos pins s1 σ H1 _ i g;rw[l]at A ⊢;refine Calls.callWith_builtin (by show(false || (backTo cpos (starEach es X.env)).any (·.1))=false;rw[n];rfl) (Calls.evalArgs_plain ?_)
 exact zU A λus s2 ⟨vs,C,B,d,q⟩=>hm pins s2 σ C (.ref p) vs (.ref p) us Q B rfl d q
theorem Rg {x:W}(q:RV K φ H x v)(e:yo x=true):∀{xs:List W}{vs:List V},zu K φ H xs vs->xs.all yo=true->vs.all wb=true/\(vs.countP λz=>gj z v)=xs.countP λz=>Yl z x
 |[],_,r,_=>by cases r;exact⟨rfl,rfl⟩|w::ws,_,⟨y,r,E,h,t⟩,a=>by
  subst E;rw[all_cons,ak]at a;obtain⟨I,i⟩:=Rg q e t a.2;refine⟨by rw[all_cons,Wn h a.1,I];rfl,?_⟩
  rw[bM,bM,i,R8 h q a.1 e]
noncomputable def fb (lo d:Int)(n:Nat):It:=⟨λi _=>i<n,λi H x h=>h=H/\x=.int (lo+i * d),λi _=>n<=i⟩
def zdD (t:TA):TI:=λσ H R=>t σ H λvs H1=>∃i j:Int,vs=[.int i,.int j,.int (-1)]/\(-(2 ^ 62)<=i/\i<2 ^ 62/\-(2 ^ 62)<=j/\j<2 ^ 62)/\R (fb i (-1) (i-j).toNat) H1
noncomputable def fc (h:Int)(n:Nat):jv:=⟨λ_ i=>if i<n then some (some (.int (h-i))) else some none,n⟩
def zdC (m m':Ev):Ei:=λρ A=>(m ρ A).bind λw A1=>(m' ρ A1).bind λa A2=>match w,a with
 |.int i,.int j=>if je i&&je j then .ok (fc i (i-j).toNat) A2 else .bad|_,_=>.bad
def fe (t:TA):TE:=λσ H Q=>t σ H λvs H1=>∃j:Int,vs=[.int j]/\∀p,H1 p=none->Q (.ref p) (upd H1 p (.rng 0 j))
def Nr {T:TA}(g:Gl X "range")(hm:X.mg "range"=none)(e:PA X [a] T)(d:starEach [a] X.env=[(false,eval a X.env)]):PE X (.Call (.Name "range" p) [a] [] pos) (fe T):=by
 intro pins s σ H Q I h;refine Call_ (Zf I g hm boot_range (PyProof.Rows.callWith_type1 (zU (e pos pins s σ H _ I h) λus s1 ⟨vs,H1,i,r,c⟩=>?_) d rfl));obtain⟨j,rfl,q⟩:=c;obtain⟨u,rfl,⟨t,rfl⟩⟩:=r.one;refine call_range_1 ⟨.ref _,_,i.laid (o:=.rng 0 j) (λb o E=>ae _ E) (ao _) ?_,rfl,q _ (i.hok.fresh (ao _))⟩;exact⟨_,_,_,au _ rfl⟩
noncomputable def wI (n:Nat):List V:=(List.range n).map λ(i:Nat)=>V.int i
def FE (y:X.calm=true):jN X (.type "list") (λxs H Q=>∃(r:Addr) (j:Int),xs=[.ref r]/\H r=some (.rng 0 j)/\(-(2 ^ 62)<=j/\j<2 ^ 62)/\j.toNat<=sizeLine/\∀l,H l=none->Q (.ref l) (upd H l (.lst (wI j.toNat)))):=by
 intro pins s σ H xs us Q I r h;obtain⟨p,j,rfl,w,⟨A,B⟩,z,q⟩:=h;obtain⟨u,rfl,g⟩:=vals1 r;cases g;obtain⟨t1,T,t3,x⟩:=I.hok p _ w;have D:sizeLine=16777216:=sizeLine_eq;refine PySem.call_list_range (n:=j.toNat) (I.ok.hd y) (show IsRange s.heap p 0 j 1 t1 T t3 from x) (small_one (by omega) (by omega) A B) (by rw[rangeSize_one];split<;>omega) (by omega) λh' tk acc C K S ⟨hn,d⟩=>?_
 refine⟨.ref s.heap.objs.size,_,I.laid (t':=tk) (o:=.lst (wI j.toNat)) K (ao _) ?_,rfl,q _ (I.hok.fresh (ao _))⟩;refine⟨by unfold wI;simpa using z,acc.toList,C,?_,by simpa using S⟩
 have a:∀(l:b4)(k:Nat),(∀(i:Nat) v,l[i]? =some v->∃t,v=.int ((k+i:Nat):Int) t)->Vals ((List.range' k l.length).map λ(i:Nat)=>V.int i) l:=by
  intro l
  induction l with
  |nil=>intro k _;exact .nil|cons v l m=>
   intro k e;rw[aN,bK,aF];refine .cons ?_ (m (k+1) λi f a=>?_)
   ·obtain⟨t,rfl⟩:=e 0 v rfl
    exact⟨t,rfl⟩
   ·obtain⟨t,rfl⟩:=e (i+1) f (by simpa using a)
    exact⟨t,by congr 1;omega⟩
 have b:acc.toList.length=j.toNat:=by simpa using hn
 have:=a acc.toList 0 λi v c=>by
  obtain⟨t,rfl⟩:=d i v (by simpa using c)
  exact⟨t,by congr 1;omega⟩
 rw[b]at this;unfold wI;rw[bC];exact this
def YX (m:Ev):Ev:=λρ A=>(m ρ A).bind λw A1=>match w with
 |.int j=>if je j&&decide (j.toNat<=zQ) then .ok (.ref A1.length) (A1++[.lst ((List.range j.toNat).map λ(i:Nat)=>W.int i)]) else .bad|_=>.bad
noncomputable def zdF (i:Nat)(m:Ev):Ex:=λρ A=>match ρ[i]? with
 |some (some (.int x))=>(m ρ A).bind λw A1=>match w with
  |.int y=>.ok (.nx (ρ.set i (some (.int (x+y))))) A1|_=>.bad
 |_=>.bad
noncomputable def ff:V->V->Hp->VK->Prop:=λo i H Q=>∃p xs k v,o=.ref p/\i=.int k/\0<=k/\H p=some (.lst xs)/\xs[k.toNat]? =some v/\Q v H
def CC:M0 X ff:=by
 intro pins s σ H o i f g Q I ro ri h;obtain⟨p,xs,k,v,rfl,rfl,h0,e,d,q⟩:=h;cases ro;obtain⟨t,rfl⟩:=ri;obtain⟨a,r,P,z⟩:=I.list (qC.of e);obtain⟨u,b,c⟩:=r.get d;have hn:=J0;have l:=r.length;have j:k.toNat<a.length:=(cA.mp b).1;exact wpAny_getItem_list P.isList h0 (by omega) (by simpa using b) ⟨v,H,I,c,q⟩
def Kh (mo mi me:Ev):Ex:=λρ A=>(mo ρ A).bind λo A1=>(mi ρ A1).bind λi A2=>match o,i with
 |.ref n,.int k=>if 0<=k then(match (A2[n]?:Option O) with
  |some (.lst ws)=>match ws[k.toNat]? with
   |some (.int x)=>(me ρ A2).bind λy b=>match y with
    |.int y=>(wG (.ref n) (.int k) (.int (x+y)) b).bind λ_ a=>.ok (.nx ρ) a|_=>.bad
   |_=>.bad
  |_=>.bad) else .bad
 |_,_=>.bad
noncomputable def J5 (i j k:Nat):Tg:=λw ρ=>match w with
 |.tup [x,.tup [y,z]]=>some (((ρ.set i (some x)).set j (some y)).set k (some z))|_=>none
end
def ju (k:Bool)(h:Heap)(it a:Addr)(i:Nat):Prop:=if k=true then h.IsListIter it a i else h.IsTupleIter it a i
def j6 (k:Bool)(h:Heap)(a:Addr)(items:Array Value):Prop:=if k=true then h.IsList a items else h.IsTuple a items
def yy (k:Bool)(K:Frag)(H:Hp)(a:Addr)(xs:List V):Prop:=if k=true then qC K H a xs else qw K H a xs
noncomputable def Ja (k:Bool):String:=if k then "list_iterator" else "tuple_iterator"
def ju.ob {k:Bool}(x:ju k h it a i):∃o,h.get? it=some o/\o.cls=.type (Ja k)/\o.data=.fields #[.ref a,.int i 0]:=by
 cases k<;>exact x
def ju.mk {k:Bool}(x:∃o,h.get? it=some o/\o.cls=.type (Ja k)/\o.data=.fields #[.ref a,.int i 0]):ju k h it a i:=by
 cases k<;>exact x
def ju.to {k:Bool}(x:ju k h it a i)(e:∀o,h.get? it=some o->h'.get? it=some o):ju k h' it a i:=let ⟨o,h1,r⟩:=x.ob;.mk ⟨o,e o h1,r⟩
def j6.ob {k:Bool}(x:j6 k h a items):∃o,h.get? a=some o/\o.cls=.type (if k then "list" else "tuple")/\∃n,o.data=.seq items n:=by
 cases k<;>exact x
def j6.to {k:Bool}(x:j6 k h a items)(e:∀o,h.get? a=some o->h'.get? a=some o):j6 k h' a items:=by
 cases k with
 |false=>exact let ⟨o,h1,r⟩:=x.ob;⟨o,e o h1,r⟩|true=>exact let ⟨o,h1,r⟩:=x.ob;⟨o,e o h1,r⟩
section
variable {prog:Program}{A:Around}{k:Bool}
def OY (h:j6 k s.heap a items)(H:Q (.ref s.heap.objs.size) { s with heap:=s.heap.push { cls:=.type (Ja k),data:=.fields #[.ref a,.int 0 0] } }):wpAny (model prog w) A (pyIter (.ref a)) Q E s:=by
 cases k with
 |true=>exact wpAny_pyIter_list h H|false=>exact wpAny_pyIter_tuple h H
def WN {x:Value}(hit:ju k s.heap it a i)(l:j6 k s.heap a items)(f:items[i]? =some x)
  (g:∀h',ju k h' it a (i+1)->Heap.SameBut it s.heap h'->Q x { s with heap:=h' }):wpAny (model prog w) A (Builtin.SmallTypes.nextOf (.ref it)) Q E s:=by
 cases k with
 |true=>exact wpAny_nextOf_list_item hit l f g|false=>
  have h:s.heap.IsTupleIter it a i:=hit;obtain⟨o,b,e,H⟩:=id h;obtain⟨j,c,_,na,d⟩:s.heap.IsTuple a items:=l;unfold Builtin.SmallTypes.nextOf;refine cu (wpAny_callSpecial?_slot (name:=Str.ofString "__next__") h.typeIs F.slot_tuple_iterator_next (wpAny_call_entry F.slot_tuple_iterator_next h.typeIs F.entry_tuple_iterator_next ?_ (F.args_tuple_iterator_next_1 _)));show wpAny _ _ (field (.ref it) 0 >>= _) _ _ s;refine cu (wpAny_field b H (x:=.ref a) rfl ?_);show wpAny _ _ (if (Value.ref a==Value.none)=true then _ else _) _ _ s;rw[aj (show ¬((Value.ref a==Value.none)=true) from az)]
  show wpAny _ _ (field (.ref it) 1 >>= _) _ _ s;refine cu (wpAny_field b H (x:=.int i 0) rfl ?_);show wpAny _ _ (seqItems? (.ref a) >>= _) _ _ s;refine cu (wpAny_seqItems c d ?_);simp only[aG,f];refine cu (wpAny_setField b H (by simp) (cw ⟨x,rfl,cw (g _ (.mk ?_) (Heap.SameBut.update ..))⟩))
  exact⟨_,bc _ b (Obj.isFreed_of_fields (Obj.data_mapFields H _)),(Obj.cls_mapFields ..).trans e,by rw[Obj.data_mapFields H];simp[rawInt]⟩
def VS (d:A.handled=none)(hit:ju k s.heap it a i)(l:j6 k s.heap a items)(g:items[i]? =none)
  (j:∀h' e,Heap.ExtBut it s.heap h'->(∃o,h'.get? e=some o/\o.cls=.type "StopIteration")->E (.ref e) { s with heap:=h' }):wpAny (model prog w) A (Builtin.SmallTypes.nextOf (.ref it)) Q E s:=by
 cases k with
 |true=>exact wpAny_nextOf_list_end d hit l g j|false=>
  have h:s.heap.IsTupleIter it a i:=hit;obtain⟨p,H,n,b⟩:=id h;obtain⟨q,c,_,na,f⟩:s.heap.IsTuple a items:=l;unfold Builtin.SmallTypes.nextOf;refine cu (wpAny_callSpecial?_slot (name:=Str.ofString "__next__") h.typeIs F.slot_tuple_iterator_next (wpAny_call_entry F.slot_tuple_iterator_next h.typeIs F.entry_tuple_iterator_next ?_ (F.args_tuple_iterator_next_1 _)));show wpAny _ _ (field (.ref it) 0 >>= _) _ _ s;refine cu (wpAny_field H b (x:=.ref a) rfl ?_);show wpAny _ _ (if (Value.ref a==Value.none)=true then _ else _) _ _ s;rw[aj (show ¬((Value.ref a==Value.none)=true) from az)]
  show wpAny _ _ (field (.ref it) 1 >>= _) _ _ s;refine cu (wpAny_field H b (x:=.int i 0) rfl ?_);show wpAny _ _ (seqItems? (.ref a) >>= _) _ _ s;refine cu (wpAny_seqItems c f ?_);simp only[aG,g];refine cu (wpAny_rule (cu (wpAny_setField H b (by simp) ?_)))
  show wpAny _ _ (newExc (.type "StopIteration") [] >>= _) _ _ _;refine cu ?_;simp only[newExc,newTuple];refine cu (wpAny_newObj_type ?_ (by size_fits))
  refine cu (m:=firstArgMember _ _) (wpAny_of_eq (a:=Value.none) (by first|rfl|(simp only[firstArgMember];rfl)) ?_);refine wpAny_newObj_type ?_ (by size_fits)
  simp only[raiseNew];refine cu (wpAny_handled ?_)
  first|rw[show A.in1.handled=none from d]|rw[d]
  refine cu (cw (wpAny_throw ?_));exact j _ _ (((Heap.SameBut.update ..).extBut.push _).push _) ⟨_,au _ rfl,rfl⟩
def WD (j:A.handled=none)(c:a≠it):Draws prog w A it [it,a] items.size (λi v=>items[i]? =some v) (λi h=>ju k h it a i/\j6 k h a items) where
 live:=λ_ _ st=>let ⟨o,g,_⟩:=st.1.ob;⟨o,g⟩
 frame:=λ_ _ _ st d=>⟨st.1.to λo e=>d it (by simp) o e,st.2.to λo e=>d a (by simp) o e⟩
 item:=λi s Q E f st l=>WN st.1 st.2 (x:=items[i]) (by simp[f]) λh' b H=>l _ h' s.toks (by simp[f]) ⟨b,st.2.to λo e=>H.extBut a o c e⟩ H
 done:=λs Q E st m=>VS j st.1 st.2 (by simp) m
end
section
def _root_.L2.Inv.spun {T:Addr}{o:HO}(I:Inv X pins σ H s)(k:∀b u,b∉fp->s.heap.get? b=some u->h'.get? b=some u)(hf:∀b∈fp,kN X pins H b)(hT:s.heap.objs.size<=T)
  (new:jI X.prog X.w (upd H T o) h' T o):Inv X pins σ (upd H T o) { s with heap:=h',toks:=t' }:=by
 have hn:H T=none:=I.hok.fresh hT;have lt:∀b u,s.heap.get? b=some u->b≠T:=λb u e=>aM (aJ (aH e) hT);have N:∀b u,H b=some u->b∉fp:=λb u e z=>by rw[(hf b z).1]at e;cases e
 refine I.step (g':=s.gens) (d':=s.drawn) (ch:=fp) (λb a=>let ⟨_,f1,_,g,f4,f⟩:=hf b a;⟨g,f1,f4,f⟩) (λb o _ _ h e _=>k b o h e) (λb o _ _ h e _=>⟨o.slots,k b o h e⟩)
  (λb o _ e n=>by rw[qx (lt b o e)];exact n) (λb o h e=>⟨o,k b o h e⟩) (λb xs e=>by rw[qx (wO e hn)];exact e) (λb u xs e=>by rw[qx (wO e hn)];exact e)
  (λb P e=>⟨#[],by rw[qx (wO e hn),e];simp⟩) (λm hm=>?_) (λb u e=>?_) I.bare
 ·obtain⟨o,E,p,d,r⟩:=hm
  exact⟨o,E,p,k _ o (λz=>(hf _ z).2.1 rfl) d,r⟩
 ·by_cases a:b=T
  ·subst a;rw[jO]at e;cases e;exact new
  ·rw[qx a]at e
   refine(I.hok b u e).stay (λc v h q=>k c v ?_ q) (λc q=>by rw[qx (wO q hn)];exact q) λc xs q=>by rw[qx (wO q hn)];exact q
   rcases h with z|z
   ·rw[z];exact N b u e
   ·exact N c _ z
def _root_.L2.Inv.spun0 (I:Inv X pins σ H s)(k:∀b u,b∉fp->s.heap.get? b=some u->h'.get? b=some u)(hf:∀b∈fp,kN X pins H b):Inv X pins σ H { s with heap:=h',toks:=t' }:=by
 have N:∀b u,H b=some u->b∉fp:=λb u e z=>by rw[(hf b z).1]at e;cases e
 refine I.step (g':=s.gens) (d':=s.drawn) (ch:=fp) (λb d=>let ⟨_,f1,_,g,f4,f⟩:=hf b d;⟨g,f1,f4,f⟩) (λb o _ _ h e _=>k b o h e) (λb o _ _ h e _=>⟨o.slots,k b o h e⟩)
  (λb o _ e n=>n) (λb o h e=>⟨o,k b o h e⟩) (λb xs e=>e) (λb u xs e=>e) (λb P e=>⟨#[],by rw[e];simp⟩) (λm hm=>?_) (λb u e=>?_) I.bare
 ·obtain⟨o,E,p,a,r⟩:=hm
  exact⟨o,E,p,k _ o (λz=>(hf _ z).2.1 rfl) a,r⟩
 ·refine(I.hok b u e).stay (λc v h q=>k c v ?_ q) (λc q=>q) λc xs q=>q
  rcases h with z|z
  ·rw[z];exact N b u e
  ·exact N c _ z
def _root_.L2.Inv.sq {k:Bool}{xs:List V}(I:Inv X pins σ H s)(h:yy k X.K H a xs):∃i:b4,Vals xs i/\j6 k s.heap a i.toArray/\xs.length<=sizeLine:=by
 cases k with
 |true=>obtain⟨i,r,p,z⟩:=I.list h;exact⟨i,r,p.isList,z⟩|false=>obtain⟨i,r,p,z⟩:=I.tuple h;exact⟨i,r,(show s.heap.IsTuple a i.toArray from p),z⟩
def _root_.L2.Inv.sq_inj {k:Bool}{xs:List V}(I:Inv X pins σ H s)(h:yy k X.K H a xs)(h':yy k X.K H a ys):xs=ys:=by
 cases k with
 |true=>exact I.list_inj h h'|false=>exact I.tuple_inj h h'
end
def U0 (k:Bool)(K:Frag)(a:Addr):It:=
 ⟨λi H=>∃xs x,yy k K H a xs/\xs[i]? =some x,λi H x h=>∃p y,(∀xs,yy k K H a xs->xs[i]? =some y)/\H p=none/\x=.ref p/\h=upd H p (.tup [.int i,y]),λi H=>∃xs,yy k K H a xs/\xs.length=i⟩
def Ej {K:Frag}(k:Bool)(a n it:Addr):Turn P w K (.Tuple elts kk tpos) (U0 k K a) [n,it] n (λi h=>(∃old,IsEnum h n it i old)/\ju k h it a i/\n≠it) where
 mem:=by simp
 obj:=λi h st b f=>by
  obtain⟨⟨old,he⟩,g,_⟩:=st;rcases cy.mp f with rfl|f
  ·exact⟨_,he,λv z=>nomatch z⟩
  ·rw[cC.mp f]
   obtain⟨o,Q,_,hd⟩:=g.ob;exact⟨o,Q,λv z=>by rw[hd]at z;cases z⟩
 keep:=λi h h' ⟨⟨old,he⟩,g,ne⟩ kp=>⟨⟨old,kp n (by simp) _ he⟩,g.to λo p=>kp it (by simp) o p,ne⟩
 item:=by
  intro X hP hw hK hc i pins s σ H E I hf st T;subst hP hw hK;obtain⟨⟨old,he⟩,g,ne⟩:=st;obtain⟨xs,x,C,B⟩:=T;obtain⟨d,D,r,hz⟩:=I.sq C;obtain⟨u,hu,ru⟩:=D.get B;have S:i<d.toArray.size:=by simpa using (cA.mp hu).1
  obtain⟨oa,j,Z,na,e⟩:=r.ob;have A:a≠it:=λz=>by
   obtain⟨oi,c,Y,m⟩:=g.ob;rw[<- z,j]at c;cases c;rw[m]at e;cases e
  have ane:n≠a:=λz=>by
   have t:s.heap.get? a=_:=z ▸ he;rw[j]at t;cases t;cases e
  refine wpAny_pyNext_enum_itemD (WD (k:=k) (items:=d.toArray) (I.ok.hd hc) A) he ⟨g,r⟩ S ne (by simp[ne,ane]) λy h1 tk J Q N hT hsz hk=>?_
  have ey:y=u:=by
   have:d[i]? =some y:=by simpa using J
   rw[hu]at this;exact(aC this).symm
  subst ey;refine⟨_,rfl,wpAny_letOwnedTupleGo_enum Q λh2 U l=>?_⟩;have L:n<s.heap.objs.size:=aH he;have hT2:h2.get? s.heap.objs.size=some { cls:=.type "tuple",data:=.seq #[.int i tk,y] }:=l.extBut _ _ (bt L) hT;refine⟨.ref s.heap.objs.size,upd H s.heap.objs.size (.tup [.int i,x]),?_,rfl,⟨s.heap.objs.size,x,λys J=>by rw[I.sq_inj J C];exact B,I.hok.fresh (ao _),rfl,rfl⟩,⟨⟨_,by simpa using U⟩,?_,ne⟩,λb f=>?_⟩
  ·refine I.spun (fp:=[n,it]) (t':=tk+1) (λb o f p=>?_) hf (ao _) ?_
   ·exact l.extBut _ _ (λz=>f (by simp[z])) (hk b o (λz=>f (by simp[z])) (λz=>f (by simp[z])) p)
   ·exact⟨by show 2<=sizeLine;decide,[.int i tk,y],.cons ⟨tk,rfl⟩ (.cons ru .nil),_,hT2,⟨rfl,rfl⟩,0,rfl⟩
  ·exact N.1.to λo p=>l.extBut _ _ (λz=>ne z.symm) p
  ·have bn:b≠s.heap.objs.size:=λz=>by
    rcases cy.mp f with q|q
    ·exact absurd L (by rw[<- q,z];exact a5 _)
    ·obtain⟨oi,c,_⟩:=g.ob
     exact absurd (aH c) (by rw[<- cC.mp q,z];exact a5 _)
   show upd H s.heap.objs.size _ b=none;rw[qx bn];exact(hf b f).1
 done:=by
  intro X hP hw hK hc i pins s σ H E I hf st T;subst hP hw hK;obtain⟨⟨old,he⟩,g,ne⟩:=st;obtain⟨xs,C,B⟩:=T;obtain⟨d,D,r,hz⟩:=I.sq C;have en':d.toArray.size=i:=by rw[aA,<- D.length];exact B
  obtain⟨oa,j,Z,na,e⟩:=r.ob;have A:a≠it:=λz=>by
   obtain⟨oi,c,Y,m⟩:=g.ob;rw[<- z,j]at c;cases c;rw[m]at e;cases e
  refine wpAny_pyNext_enum_endD (WD (k:=k) (items:=d.toArray) (I.ok.hd hc) A) he ⟨by rw[en'];exact g,r⟩ λh1 M=>⟨rfl,?_⟩
  exact I.spun0 (fp:=[n,it]) (t':=s.toks) (λb o f p=>M b o (λz=>f (by simp[z])) p) hf
 self:=λ_ _ _ _ _ ⟨⟨_,he⟩,_⟩ h=>wpAny_pyIter_enum he h
open AutoSeq1 (wpAny_loadPart')
abbrev w6 (h:Heap)(k:Bool)(a:Addr):Heap:=h.push { cls:=.type (Ja k),data:=.fields #[.ref a,.int 0 0] }
abbrev ML (h:Heap)(k:Bool)(a:Addr):Heap:=(w6 h k a).push { cls:=.type "enumerate",data:=.fields #[.none,.bool false,.ref h.objs.size,rawInt 0,.none,.none] }
def Fc (a:Addr)(items:Array Value)(n:Nat)(D:cp)(S:Array (b8)):
  Meets (Builtin.«enumerate.__new__» ⟨[.type "enumerate",.ref a],[]⟩) (λ_ R s=>s.heap.get? a=some { cls:=.type "tuple",dict:=D,data:=.seq items n,slots:=S }/\R (.ok (.ret (.ref (w6 s.heap false a).objs.size))) { s with heap:=ML s.heap false a }):=
 .of_wp λprog w A R s h=>by
  obtain⟨p,g,d,tk,os⟩:=s;obtain⟨H,h⟩:=h;have b:=sub_enumerate;have hT:Heap.IsTuple (Shared.heap ⟨p,g,d,tk,os⟩) a items:=⟨_,H,rfl,n,rfl⟩
  wp_walk using wpAny_loadPart' H
  refine wpAny_stack_any λst=>cw ?_;split
  ·rename_i c _ _ _ _ _
   cases (c==Value.type "enumerate")<;>(wp_walk using wpAny_loadPart' H,wpAny_pyIter_tuple hT;exact⟨_,rfl,h⟩)
  ·wp_walk using wpAny_loadPart' H,wpAny_pyIter_tuple hT
   exact⟨_,rfl,h⟩
section
variable {prog:Program}{A:Around}
def Ep {k:Bool}(l:j6 k s.heap a items)
  (h:∀h',IsEnum h' (s.heap.objs.size+1) s.heap.objs.size 0 .none->ju k h' s.heap.objs.size a 0->(∀b o,s.heap.get? b=some o->h'.get? b=some o)->Q (.ref (s.heap.objs.size+1)) { s with heap:=h' }):
  wpAny (model prog w) A (call (.type "enumerate") [.ref a]) Q E s:=by
 cases k with
 |true=>exact call_enumerate_list l λh' g f _ e=>h h' g f e|false=>
  obtain⟨⟨c,i,D,S⟩,d,H,n,hd⟩:=(show s.heap.IsTuple a items from l)
  replace H:c=.type "tuple":=H
  replace hd:D=.seq items n:=hd
  subst H hd;refine callType_new F.called_enumerate (by decide) (F.typeCall_enumerate_1 _) (F.newCall_enumerate_1 _) (λobj=>F.args_object_init_2 obj _) F.entry_enumerate_new (Fc a items n i S) ⟨d,?_⟩
  have z:(w6 s.heap false a).objs.size=s.heap.objs.size+1:=bp ..;have he:IsEnum (ML s.heap false a) (w6 s.heap false a).objs.size s.heap.objs.size 0 .none:=au _ rfl;show _/\_;rw[z]at he ⊢;exact⟨⟨_,he,rfl⟩,h _ he (.mk ⟨_,ae _ (au _ rfl),rfl,rfl⟩) λb o x=>ae _ (ae _ x)⟩
end
section
variable {a b:Expr}{m:Ev}
def fg (K:Frag)(t:TA):TI:=λσ H R=>t σ H λvs H1=>∃p k xs,vs=[.ref p]/\yy k K H1 p xs/\R (U0 k K p) H1
def boot_enumerate:bootBuiltins "enumerate"=some (.type "enumerate"):=by rfl
def boot_zip:bootBuiltins "zip"=some (.type "zip"):=by rfl
def Aj {t:TA}(l:Gl X "enumerate")(hm:X.mg "enumerate"=none)(n:PA X [a] t)(g:starEach [a] X.env=[(false,eval a X.env)]):
  PI X (.Tuple elts kk tpos) (.Call (.Name "enumerate" p) [a] [] pos) (fg X.K t):=by
 intro pins s σ H R I h;refine Call_ (Zf I l hm boot_enumerate (PyProof.Rows.callWith_type1 (zU (n pos pins s σ H _ I h) λus s1 ⟨vs,H1,i,d,Q⟩=>?_) g rfl));obtain⟨p,k,xs,rfl,j,q⟩:=Q;obtain⟨u,rfl,r⟩:=d.one;cases r;obtain⟨f,v,sq,w⟩:=i.sq j;refine Ep sq λh' e o E=>wpAny_pyIter_enum e ?_;refine⟨s1.heap.objs.size+1,[s1.heap.objs.size+1,s1.heap.objs.size],_,_,H1,rfl,i.kept (t':=s1.toks) E,Ej k p _ _,⟨⟨_,by simpa using e⟩,o,Nat.succ_ne_self _⟩,λb m=>?_,q⟩
 have c:s1.heap.objs.size<=b:=by
  rcases cy.mp m with z|z
  ·rw[z];exact le_succ _
  ·rw[cC.mp z];exact ao _
 exact i.fpOk c (i.hok.fresh c)
noncomputable def atEnd (ws:List W)(i:Nat)(f:W->W):Option (Option W):=match ws[i]? with
 |some x=>some (some (f x))|none=>if ws.length=i then some none else none
def yu (w:W)(n:Nat):jv:=⟨λA i=>match zW w A with
 |some ws=>atEnd ws i λx=>.tup [.int i,x]|none=>none,n⟩
noncomputable def Qw (w:W):Bool:=match w with
 |.tup _=>false|_=>true
def YQ {K:Frag}{A:Hx}{w:W}{ws:List W}(S:zL K φ A H)(q:RV K φ H w v)(e:zW w A=some ws):∃p Y,v=.ref p/\yy (Qw w) K H p Y/\zu K φ H ws Y:=by
 cases w with
 |tup us=>cases e;obtain⟨a,vs,E,t,r⟩:=q;exact⟨a,vs,E,t,r⟩|ref n=>
  obtain⟨a,E,f⟩:=q;unfold zW at e;dsimp only at e;cases c:A[n]? with
  |none=>rw[c]at e;cases e|some o=>
   rw[c]at e;obtain⟨g,d,r⟩:=S.ob n o c;rw[f]at d;cases d;cases o with
   |lst xs=>cases e;obtain⟨y,b,h⟩:=r;exact⟨a,y,E,qC.of b,h⟩|ro xs=>cases e;obtain⟨y,b,h⟩:=r;exact⟨a,y,E,b.sq,h⟩|dct xs=>cases e|td _=>cases e|tr _=>cases e|tab _ _=>cases e
 |non=>cases e|bl _=>cases e|clo _ _ _=>cases e|xc _=>cases e|int _=>cases e|str _=>cases e
def Wi {K:Frag}{a:b5}{A:Hx}{h:Hp}{w:W}{b:List W}{p:Addr}(q:RV K φ H w (.ref p))(lw:Z4 K φ H a h)(S:zL K a A h)(E:zW w A=some b):∃y,yy (Qw w) K h p y/\zu K a h b y:=by
 obtain⟨P,Y,e,d,c⟩:=YQ S (RV.monoW lw q) E;cases e;exact⟨Y,d,c⟩
def fh {K:Frag}{w:W}{p:Addr}(q:RV K φ H w (.ref p)):Z5 K φ H (yu w n) (U0 (Qw w) K p):=λi c m j lw S=>by
 unfold yu;dsimp only;cases es:zW w j with
 |none=>exact⟨λ_ z=>(by cases z),λz=>(by cases z)⟩|some ws=>
  dsimp only;obtain⟨Y,a,b⟩:=Wi q lw S es;unfold atEnd;cases E:ws[i]? with
  |none=>
   dsimp only
   by_cases h:ws.length=i
   ·rw[ah h]
    exact⟨λ_ z=>(by cases z),λ_=>⟨Y,a,by rw[<- b.length];exact h⟩⟩
   ·rw[aj h]
    exact⟨λ_ z=>(by cases z),λz=>(by cases z)⟩
  |some x=>
   dsimp only;refine⟨λu z=>?_,λz=>(by cases z)⟩
   cases z;obtain⟨y,e,g⟩:=b.get E;refine⟨⟨Y,y,a,e⟩,λX H1 ⟨t,l,d,ht,ex,f⟩=>?_⟩;subst ex f
   have:=d Y a
   rw[e]at this;cases this;obtain⟨a1,a2,A⟩:=Ze S ht (.cons (w:=.int i) (v:=.int i) rfl (.one g));exact⟨a1,a2,A⟩
def j4 (m:Ev):Ei:=λρ A=>(m ρ A).bind λw A1=>match zW w A1 with
 |some ws=>.ok (yu w ws.length) A1|none=>.bad
end
section
variable {prog:Program}{A:Around}{z TI TO i1 i2 l1 l2:Addr}{n1 n2:Nat}{c1 c2:Bool}{xs ys:Array Value}{x y a b:Value}
def AA (D:ZipApart z TI TO i1 i2 l1 l2)(H:IsZip s.heap z TI TO .none)(I:IsPair s.heap TI (.ref i1) (.ref i2))(r:IsPair s.heap TO a b)
  (g1:ju c1 s.heap i1 l1 n1)(g2:ju c2 s.heap i2 l2 n2)(s1:j6 c1 s.heap l1 xs)(s2:j6 c2 s.heap l2 ys)(X:xs[n1]? =some x)(U:ys[n2]? =some y)
  (hQ:∀h',IsZip h' z TI TO (rawInt s.heap.objs.size)->IsPair h' TI (.ref i1) (.ref i2)->IsPair h' TO x y->ju c1 h' i1 l1 (n1+1)->ju c2 h' i2 l2 (n2+1)->IsPair h' s.heap.objs.size x y->
   (∀c o,c≠z->c≠TO->c≠i1->c≠i2->s.heap.get? c=some o->h'.get? c=some o)->Q (.ref s.heap.objs.size) { s with heap:=h' }):
  wpAny (model prog w) A (Builtin.«zip.__next__» ⟨[.ref z],[]⟩) (λfin P=>∃v,fin=.done (.ret v)/\Q v P) E s:=by
 show wpAny _ _ (field (.ref z) 2 >>= _) _ _ _;refine cu (wpAny_field H rfl (x:=.bool false) rfl ?_);show wpAny _ _ (field (.ref z) 3 >>= _) _ _ _;refine cu (wpAny_field H rfl (x:=.ref TI) rfl (cu (wpAny_seqItems I rfl ?_)));show wpAny _ _ (Builtin.SmallTypes.ownedTupleIsFree (.ref z) >>= _) _ _ _;refine cu ?_;unfold Builtin.SmallTypes.ownedTupleIsFree;refine cu (wpAny_field H rfl (x:=.none) rfl (cw ?_));simp only[if_true];refine cu (wpAny_rule (cu (wpAny_field H rfl (x:=.ref TO) rfl ?_)));refine cu (wpAny_setField_rec H (by simp) λha n sa=>?_);replace n:IsZip ha z TI TO .ellipsis:=n
 refine cu ?_;simp only[List.zipIdx_cons,List.zipIdx_nil,forIn_cons,forIn_nil];refine cu (cu (wpAny_onRaise ?_));show wpAny _ _ (Builtin.SmallTypes.nextOf (.ref i1) >>= _) _ _ _;refine cu (WN (g1.to λo e=>sa.extBut _ _ D.i1z e) (s1.to λo e=>sa.extBut _ _ D.l1z e) X λhb gb j=>cw ?_);have C:IsPair hb TO a b:=j.extBut _ _ D.TOi1 (sa.extBut _ _ D.TOz r);refine cu (wpAny_seqItems C rfl (cu (wpAny_updateSeq_pair C λM T sc=>cu (wpAny_letGo (cw ?_)))));replace T:IsPair M TO x b:=T;refine cu (cu (wpAny_onRaise ?_));show wpAny _ _ (Builtin.SmallTypes.nextOf (.ref i2) >>= _) _ _ _;have up:∀c o,c≠z->c≠i1->c≠TO->s.heap.get? c=some o->M.get? c=some o:=λc o f d h e=>sc.extBut _ _ h (j.extBut _ _ d (sa.extBut _ _ f e));refine cu (WN (g2.to λo e=>up _ o D.i2z D.i12.symm D.TOi2.symm e) (s2.to λo e=>up _ o D.l2z D.l2i1 D.l2TO e) U λhd gd g=>cw ?_);have td:IsPair hd TO x b:=g.extBut _ _ D.TOi2 T;refine cu (wpAny_seqItems td rfl (cu (wpAny_updateSeq_pair td λhe t S=>cu (wpAny_letGo (cw (cw ?_))))));replace t:IsPair he TO x y:=t;refine cu (wpAny_seqItems t rfl (cu (wpAny_newTuple ?_)));have hsz:he.objs.size=s.heap.objs.size:=by rw[S.1,g.1,sc.1,j.1,sa.1]
 have B:IsZip he z TI TO .ellipsis:=S.extBut _ _ D.TOz.symm (g.extBut _ _ D.i2z.symm (sc.extBut _ _ D.TOz.symm (j.extBut _ _ D.i1z.symm n)));have L:∀c o,c≠z->c≠TO->c≠i1->c≠i2->s.heap.get? c=some o->he.get? c=some o:=λc o f d h p e=>S.extBut _ _ d (g.extBut _ _ p (up c o f h d e));have ge1:ju c1 he i1 l1 (n1+1):=((gb.to λo e=>sc.extBut _ _ D.TOi1.symm e).to λo e=>g.extBut _ _ D.i12 e).to λo e=>S.extBut _ _ D.TOi1.symm e;have u:ju c2 he i2 l2 (n2+1):=gd.to λo e=>S.extBut _ _ D.TOi2.symm e;have Z:z<he.objs.size:=aH B;show wpAny _ _ (Builtin.SmallTypes.ownedTupleHandOut (.ref z) (.ref he.objs.size) >>= _) _ _ _;refine cu ?_;unfold Builtin.SmallTypes.ownedTupleHandOut;have N:IsZip (he.push { cls:=.type "tuple",data:=.seq #[x,y] }) z TI TO .ellipsis:=ae _ B;refine cu (wpAny_setField_rec N (by simp) λY m K=>?_);replace m:IsZip Y z TI TO (rawInt he.objs.size):=m
 refine wpAny_setField_rec m (by simp) λl i J=>?_;replace i:IsZip l z TI TO (rawInt he.objs.size):=i
 have fin:∀c o,c≠z->he.get? c=some o->l.get? c=some o:=λc o q e=>J.extBut _ _ q (K.extBut _ _ q (ae _ e));have tk:IsPair l he.objs.size x y:=J.extBut _ _ (bt Z) (K.extBut _ _ (bt Z) (au _ rfl));rw[hsz]at i tk;refine cw ⟨_,rfl,?_⟩;show Q (.ref he.objs.size) _;rw[hsz];exact hQ l i (fin _ _ D.TIz (L _ _ D.TIz D.TITO D.TIi1 D.TIi2 I)) (fin _ _ D.TOz t) (ge1.to λo e=>fin _ o D.i1z e) (u.to λo e=>fin _ o D.i2z e) tk λc o f d h p e=>fin c o f (L c o f d h p e)
def fi {Q:Fin->Shared->Prop}(J:A.handled=none)(D:ZipApart z TI TO i1 i2 l1 l2)(i:IsZip s.heap z TI TO .none)(I:IsPair s.heap TI (.ref i1) (.ref i2))(u:IsPair s.heap TO a b)
  (g1:ju c1 s.heap i1 l1 n1)(g2:ju c2 s.heap i2 l2 n2)(s1:j6 c1 s.heap l1 xs)(s2:j6 c2 s.heap l2 ys)(j:xs[n1]? =none∨ys[n2]? =none)
  (K:∀h' e,(∀c o,c≠z->c≠TO->c≠i1->c≠i2->s.heap.get? c=some o->h'.get? c=some o)->(∃o,h'.get? e=some o/\o.cls=.type "StopIteration")->E (.ref e) { s with heap:=h' }):
  wpAny (model prog w) A (Builtin.«zip.__next__» ⟨[.ref z],[]⟩) Q E s:=by
 show wpAny _ _ (field (.ref z) 2 >>= _) _ _ _;refine cu (wpAny_field i rfl (x:=.bool false) rfl ?_);show wpAny _ _ (field (.ref z) 3 >>= _) _ _ _;refine cu (wpAny_field i rfl (x:=.ref TI) rfl (cu (wpAny_seqItems I rfl ?_)));show wpAny _ _ (Builtin.SmallTypes.ownedTupleIsFree (.ref z) >>= _) _ _ _;refine cu ?_;unfold Builtin.SmallTypes.ownedTupleIsFree;refine cu (wpAny_field i rfl (x:=.none) rfl (cw ?_));simp only[if_true];refine cu (wpAny_rule (cu (wpAny_field i rfl (x:=.ref TO) rfl ?_)));refine cu (wpAny_setField_rec i (by simp) λt Z sa=>?_);replace Z:IsZip t z TI TO .ellipsis:=Z
 refine cu ?_;simp only[List.zipIdx_cons,List.zipIdx_nil,forIn_cons,forIn_nil];refine cu (cu (wpAny_onRaise ?_));show wpAny _ _ (Builtin.SmallTypes.nextOf (.ref i1) >>= _) _ _ _;have ga:=g1.to (h':=t) λo e=>sa.extBut _ _ D.i1z e;have Y:=s1.to (h':=t) λo e=>sa.extBut _ _ D.l1z e;cases n:xs[n1]? with
 |none=>
  refine cu (VS J ga Y n λr e S he=>?_);obtain⟨m,h,H⟩:=he;have y:IsZip r z TI TO .ellipsis:=S _ _ D.i1z.symm Z;have f:e≠z:=λq=>by subst q;rw[y]at h;cases h;simp at H
  exact wpAny_setField_rec y (by simp) λp _ sc=>K p e (λc o d _ g _ q=>sc.extBut _ _ d (S _ _ g (sa.extBut _ _ d q))) ⟨m,sc.extBut _ _ f h,H⟩
 |some x=>
  have M:ys[n2]? =none:=by
   rcases j with q|q
   ·rw[n]at q;cases q
   ·exact q
  refine cu (WN ga Y n λr P S=>cw ?_);have T:IsPair r TO a b:=S.extBut _ _ D.TOi1 (sa.extBut _ _ D.TOz u);refine cu (wpAny_seqItems T rfl (cu (wpAny_updateSeq_pair T λp N sc=>cu (wpAny_letGo (cw ?_)))));refine cu (cu (wpAny_onRaise ?_));show wpAny _ _ (Builtin.SmallTypes.nextOf (.ref i2) >>= _) _ _ _;have up:∀c o,c≠z->c≠i1->c≠TO->s.heap.get? c=some o->p.get? c=some o:=λc o d l g e=>sc.extBut _ _ g (S.extBut _ _ l (sa.extBut _ _ d e));refine cu (VS J (g2.to λo e=>up _ o D.i2z D.i12.symm D.TOi2.symm e) (s2.to λo e=>up _ o D.l2z D.l2i1 D.l2TO e) M λhd e C he=>?_);obtain⟨m,h,H⟩:=he;have v:IsZip hd z TI TO .ellipsis:=C _ _ D.i2z.symm (sc.extBut _ _ D.TOz.symm (S.extBut _ _ D.i1z.symm Z));have f:e≠z:=λq=>by subst q;rw[v]at h;cases h;simp at H
  exact wpAny_setField_rec v (by simp) λhf _ B=>K hf e (λc o d l g L q=>B.extBut _ _ d (C _ _ L (up c o d g l q))) ⟨m,B.extBut _ _ f h,H⟩
def BK {Q:Option Value->Shared->Prop}(D:ZipApart z TI TO i1 i2 l1 l2)(d:IsZip s.heap z TI TO .none)(H:IsPair s.heap TI (.ref i1) (.ref i2))(h:IsPair s.heap TO a b)
  (g1:ju c1 s.heap i1 l1 n1)(g2:ju c2 s.heap i2 l2 n2)(s1:j6 c1 s.heap l1 xs)(s2:j6 c2 s.heap l2 ys)(n:xs[n1]? =some x)(m:ys[n2]? =some y)
  (p:∀h',IsZip h' z TI TO (rawInt s.heap.objs.size)->IsPair h' TI (.ref i1) (.ref i2)->IsPair h' TO x y->ju c1 h' i1 l1 (n1+1)->ju c2 h' i2 l2 (n2+1)->IsPair h' s.heap.objs.size x y->
   (∀c o,c≠z->c≠TO->c≠i1->c≠i2->s.heap.get? c=some o->h'.get? c=some o)->Q (some (.ref s.heap.objs.size)) { s with heap:=h' }):wpAny (model prog w) A (pyNext (.ref z)) Q E s:=by
 have hT:s.TypeIs (.ref z) "zip":=⟨_,d,rfl⟩;unfold pyNext;exact cu (wpAny_attempt (wpAny_callSpecial?_slot (name:=Str.ofString "__next__") hT F.slot_zip_next (wpAny_call_entry F.slot_zip_next hT F.entry_zip_next
  (AA D d H h g1 g2 s1 s2 n m λh' l j i g f e q=>cw (p h' l j i g f e q)) (F.args_zip_next_1 _))))
def Av {Q:Option Value->Shared->Prop}(i:A.handled=none)(D:ZipApart z TI TO i1 i2 l1 l2)(d:IsZip s.heap z TI TO .none)(I:IsPair s.heap TI (.ref i1) (.ref i2))(H:IsPair s.heap TO a b)
  (g1:ju c1 s.heap i1 l1 n1)(g2:ju c2 s.heap i2 l2 n2)(s1:j6 c1 s.heap l1 xs)(s2:j6 c2 s.heap l2 ys)(h:xs[n1]? =none∨ys[n2]? =none)
  (l:∀h',(∀c o,c≠z->c≠TO->c≠i1->c≠i2->s.heap.get? c=some o->h'.get? c=some o)->Q none { s with heap:=h' }):wpAny (model prog w) A (pyNext (.ref z)) Q E s:=by
 have hT:s.TypeIs (.ref z) "zip":=⟨_,d,rfl⟩;unfold pyNext;refine cu (wpAny_attempt (wpAny_callSpecial?_slot (name:=Str.ofString "__next__") hT F.slot_zip_next (wpAny_call_entry F.slot_zip_next hT F.entry_zip_next (fi i D d I H g1 g2 s1 s2 h λh' e g he=>?_) (F.args_zip_next_1 _))));obtain⟨o,f,j⟩:=he;exact cu (wpAny_isInstance (T := "StopIteration") (b:=true) ⟨o,f,j⟩ isSubtype_stop (cw (l _ g)))
end
abbrev Gj (h:Heap)(c:Bool)(l:Addr):Heap:=h.push { cls:=.type (Ja c),data:=.fields #[.ref l,.int 0 0] }
abbrev Gi (h:Heap)(C c:Bool)(L l:Addr):Heap:=(Gj h C L).push { cls:=.type (Ja c),data:=.fields #[.ref l,.int 0 0] }
abbrev Gq (h:Heap)(c C:Bool)(l L:Addr):Heap:=(Gi h c C l L).push { cls:=.type "tuple",data:=.seq #[.ref h.objs.size,.ref (Gj h c l).objs.size] }
abbrev Gr (h:Heap)(C c:Bool)(L l:Addr):Heap:=(Gq h C c L l).push { cls:=.type "tuple",data:=.seq #[.none,.none] }
abbrev Yh (h:Heap)(C c:Bool)(L l:Addr):Heap:=(Gr h C c L l).push { cls:=.type "zip",data:=.fields #[.none,.bool false,.bool false,.ref (Gi h C c L l).objs.size,.ref (Gq h C c L l).objs.size] }
def Dp (c C:Bool)(l L:Addr)(xs y:Array Value):
  Meets (Builtin.«zip.__new__» ⟨[.type "zip",.ref l,.ref L],[]⟩) (λ_ R s=>j6 c s.heap l xs/\j6 C s.heap L y/\R (.ok (.ret (.ref (Gr s.heap c C l L).objs.size))) { s with heap:=Yh s.heap c C l L }):=
 .of_wp λprog w A R s h=>by
  obtain⟨p,g,d,tk,os⟩:=s;obtain⟨Q,q,h⟩:=h;have H:=sub_zip;have a:j6 c (Shared.heap ⟨p,g,d,tk,os⟩) l xs:=Q;have K:j6 C (Shared.heap ⟨p.push { cls:=.type (Ja c),data:=.fields #[.ref l,.int 0 0] },g,d,tk,os⟩) L y:=q.to λo e=>ae _ e
  wp_walk using OY a,OY K
  exact⟨_,rfl,h⟩
section
variable {prog:Program}{A:Around}{c1 c2:Bool}{l1 l2:Addr}{xs ys:Array Value}
def DG (s1:j6 c1 s.heap l1 xs)(s2:j6 c2 s.heap l2 ys)
  (h:∀h' n,n=s.heap.objs.size->IsZip h' (n+4) (n+2) (n+3) .none->IsPair h' (n+2) (.ref n) (.ref (n+1))->IsPair h' (n+3) .none .none->ju c1 h' n l1 0->ju c2 h' (n+1) l2 0->
   (∀c o,s.heap.get? c=some o->h'.get? c=some o)->Q (.ref (n+4)) { s with heap:=h' }):wpAny (model prog w) A (call (.type "zip") [.ref l1,.ref l2]) Q E s:=by
 refine callType_new F.called_zip (by decide) (F.typeCall_zip_2 _ _) (F.newCall_zip_2 _ _) (λobj=>F.args_object_init_3 obj _ _) F.entry_zip_new (Dp c1 c2 l1 l2 xs ys) ⟨s1,s2,?_⟩
 have a:(Gj s.heap c1 l1).objs.size=s.heap.objs.size+1:=bp ..;have Z:(Gi s.heap c1 c2 l1 l2).objs.size=s.heap.objs.size+2:=by rw[bp,a]
 have z:(Gq s.heap c1 c2 l1 l2).objs.size=s.heap.objs.size+3:=by rw[bp,Z]
 have b:(Gr s.heap c1 c2 l1 l2).objs.size=s.heap.objs.size+4:=by rw[bp,z]
 have y:(Yh s.heap c1 c2 l1 l2).get? (Gr s.heap c1 c2 l1 l2).objs.size=some _:=au _ rfl;have Y:(Yh s.heap c1 c2 l1 l2).get? (Gq s.heap c1 c2 l1 l2).objs.size=some _:=ae _ (au _ rfl);have y3:(Yh s.heap c1 c2 l1 l2).get? (Gi s.heap c1 c2 l1 l2).objs.size=some _:=ae _ (ae _ (au _ rfl));have y2:(Yh s.heap c1 c2 l1 l2).get? (Gj s.heap c1 l1).objs.size=some _:=ae _ (ae _ (ae _ (au _ rfl)));have d:(Yh s.heap c1 c2 l1 l2).get? s.heap.objs.size=some _:=ae _ (ae _ (ae _ (ae _ (au _ rfl))));show _/\_;rw[Z,z,b]at y;rw[a,Z]at y3;rw[z]at Y;rw[a]at y2;rw[b];exact⟨⟨_,y,rfl⟩,h _ _ rfl y y3 Y (.mk ⟨_,d,rfl,rfl⟩) (.mk ⟨_,y2,rfl,rfl⟩) λc o q=>
  ae _ (ae _ (ae _ (ae _ (ae _ q))))⟩
end
def UQ (C c:Bool)(K:Frag)(p q:Addr):It:=
 ⟨λi H=>∃xs Y x y,yy C K H p xs/\yy c K H q Y/\xs[i]? =some x/\Y[i]? =some y,
  λi H v h=>∃t x y,(∀xs,yy C K H p xs->xs[i]? =some x)/\(∀Y,yy c K H q Y->Y[i]? =some y)/\H t=none/\v=.ref t/\h=upd H t (.tup [x,y]),
  λi H=>∃xs Y,yy C K H p xs/\yy c K H q Y/\(xs[i]? =none∨Y[i]? =none)⟩
def DT {K:Frag}(c1 c2:Bool)(p q z TI TO r n:Addr)(D:ZipApart z TI TO r n p q):
  Turn P w K (.Tuple elts kk tpos) (UQ c1 c2 K p q) [z,TI,TO,r,n] z (λi h=>IsZip h z TI TO .none/\IsPair h TI (.ref r) (.ref n)/\(∃a b,IsPair h TO a b)/\ju c1 h r p i/\ju c2 h n q i) where
 mem:=by simp
 obj:=λi h st b d=>by
  obtain⟨j,g,⟨Q,N,f⟩,g1,g2⟩:=st;simp only[mem_cons,not_mem_nil,or_false]at d;rcases d with rfl|rfl|rfl|rfl|rfl
  ·exact⟨_,j,λv e=>nomatch e⟩
  ·exact⟨_,g,λv e=>nomatch e⟩
  ·exact⟨_,f,λv e=>nomatch e⟩
  ·obtain⟨o,A,_,hd⟩:=g1.ob;exact⟨o,A,λv e=>by rw[hd]at e;cases e⟩
  ·obtain⟨o,A,_,hd⟩:=g2.ob;exact⟨o,A,λv e=>by rw[hd]at e;cases e⟩
 keep:=λi h h' ⟨j,g,⟨Q,N,f⟩,g1,g2⟩ k=>⟨k z (by simp) _ j,k TI (by simp) _ g,⟨Q,N,k TO (by simp) _ f⟩,g1.to λo e=>k r (by simp) o e,g2.to λo e=>k n (by simp) o e⟩
 item:=by
  intro X hP hw hK hc i pins s σ H E I hf st hg;subst hP hw hK;obtain⟨j,g,⟨Q,N,f⟩,g1,g2⟩:=st;obtain⟨xs,ys,x,y,M,L,ex,ey⟩:=hg;obtain⟨m,r1,t,_⟩:=I.sq M;obtain⟨l,r2,S,_⟩:=I.sq L;obtain⟨T,eu1,Z⟩:=r1.get ex;obtain⟨U,eu2,Y⟩:=r2.get ey;refine BK D j g f g1 g2 t S (x:=T) (y:=U) (by simpa using eu1) (by simpa using eu2) λhh z1 z2 z3 z4 z5 z6 kp=>?_
  refine⟨_,rfl,wpAny_letOwnedTupleGo_zip z1 λhk zk C=>?_⟩;have lt:∀{c o},s.heap.get? c=some o->c≠s.heap.objs.size:=λe=>aM (aH e);have T2:IsPair hk s.heap.objs.size T U:=C.extBut _ _ (lt j).symm z6;have fre:∀b∈[z,TI,TO,r,n],b≠s.heap.objs.size:=λb d=>by
   simp only[mem_cons,not_mem_nil,or_false]at d;rcases d with rfl|rfl|rfl|rfl|rfl
   ·exact lt j
   ·exact lt g
   ·exact lt f
   ·obtain⟨o,A,_⟩:=g1.ob;exact lt A
   ·obtain⟨o,A,_⟩:=g2.ob;exact lt A
  refine⟨.ref s.heap.objs.size,upd H s.heap.objs.size (.tup [x,y]),?_,rfl,⟨s.heap.objs.size,x,y,λzs u=>by rw[I.sq_inj u M];exact ex,λzs u=>by rw[I.sq_inj u L];exact ey,I.hok.fresh (ao _),rfl,rfl⟩,
   ⟨zk,C.extBut _ _ D.TIz z2,⟨_,_,C.extBut _ _ D.TOz z3⟩,z4.to λo e=>C.extBut _ _ D.i1z e,z5.to λo e=>C.extBut _ _ D.i2z e⟩,λb d=>?_⟩
  ·refine I.spun (fp:=[z,TI,TO,r,n]) (t':=s.toks) (λb o d eo=>?_) hf (ao _) ?_
   ·exact C.extBut _ _ (λe=>d (by simp[e])) (kp b o (λe=>d (by simp[e])) (λe=>d (by simp[e])) (λe=>d (by simp[e])) (λe=>d (by simp[e])) eo)
   ·exact⟨by show 2<=sizeLine;decide,[T,U],.cons Z (.cons Y .nil),_,T2,⟨rfl,rfl⟩,0,rfl⟩
  ·show upd H s.heap.objs.size _ b=none
   rw[qx (fre b d)];exact(hf b d).1
 done:=by
  intro X hP hw hK hc i pins s σ H E I hf st hg;subst hP hw hK;obtain⟨j,g,⟨Q,N,f⟩,g1,g2⟩:=st;obtain⟨xs,ys,M,L,J⟩:=hg;obtain⟨m,r1,t,_⟩:=I.sq M;obtain⟨l,r2,S,_⟩:=I.sq L;have B:m.toArray[i]? =none∨l.toArray[i]? =none:=by
   rcases J with e|e
   ·exact .inl (by simpa using r1.none_of e)
   ·exact .inr (by simpa using r2.none_of e)
  exact Av (I.ok.hd hc) D j g f g1 g2 t S B λhh kp=>⟨rfl,I.spun0 (fp:=[z,TI,TO,r,n]) (t':=s.toks) (λb o d eo=>kp b o (λe=>d (by simp[e])) (λe=>d (by simp[e])) (λe=>d (by simp[e])) (λe=>d (by simp[e])) eo) hf⟩
 self:=λ_ _ _ _ _ st h=>wpAny_pyIter_zip st.1 h
section
variable {a b:Expr}{m:Ev}
def fj (K:Frag)(t:TA):TI:=λσ H R=>t σ H λvs H1=>∃p q C c xs y,vs=[.ref p,.ref q]/\yy C K H1 p xs/\yy c K H1 q y/\R (UQ C c K p q) H1
def fk {T:TA}(P:Gl X "zip")(hm:X.mg "zip"=none)(U:PA X [a,b] T)(M:starEach [a,b] X.env=(false,eval a X.env)::starEach [b] X.env)(N:(backTo pos (starEach [b] X.env)).any (·.1)=false):
  PI X (.Tuple elts kk tpos) (.Call (.Name "zip" p) [a,b] [] pos) (fj X.K T):=by
 intro pins s σ H R I h;refine Call_ (Zf I P hm boot_zip (PyProof.Rows.callWith_type1 (zU (U pos pins s σ H _ I h) λus s1 ⟨vs,H1,g,J,Q⟩=>?_) M N));obtain⟨p,q,c1,c2,xs,ys,rfl,h1,h2,Y⟩:=Q;obtain⟨u1,u2,rfl,m,r⟩:=J.two;cases m;cases r;obtain⟨v,C,d,_⟩:=g.sq h1;obtain⟨u,B,S,_⟩:=g.sq h2;obtain⟨op,t,_⟩:=d.ob;obtain⟨oq,o,_⟩:=S.ob;have L:p<s1.heap.objs.size:=aH t;have l:q<s1.heap.objs.size:=aH o;refine DG d S λh' n E z A y x Z kp=>wpAny_pyIter_zip z ?_;rw[<- E]at L l;have ne1:∀(i j:Nat),i≠j->n+i≠n+j:=λi j h e=>h (Nat.add_left_cancel e);have ne2:∀(c:Nat)(i:Nat),c<n->c≠n+i:=λc i h e=>absurd h (by rw[e];exact Nat.not_lt.mpr (le_add_right n i))
 have D:ZipApart (n+4) (n+2) (n+3) (n+0) (n+1) p q:=⟨ne1 2 4 (by decide),ne1 3 4 (by decide),ne1 0 4 (by decide),ne1 1 4 (by decide),ne1 2 3 (by decide),ne1 2 0 (by decide),ne1 2 1 (by decide),ne1 3 0 (by decide),ne1 3 1 (by decide),ne1 0 1 (by decide),
  ne2 p 4 L,ne2 p 3 L,ne2 p 0 L,ne2 p 1 L,ne2 q 4 l,ne2 q 3 l,ne2 q 0 l,ne2 q 1 l⟩
 refine⟨n+4,[n+4,n+2,n+3,n,n+1],_,_,H1,rfl,g.kept (t':=s1.toks) kp,DT c1 c2 p q _ _ _ _ _ D,⟨z,A,⟨_,_,y⟩,x,Z⟩,λc w=>?_,Y⟩;have f:s1.heap.objs.size<=c:=by
  rw[<- E];simp only[mem_cons,not_mem_nil,or_false]at w;rcases w with rfl|rfl|rfl|rfl|rfl
  ·exact le_add_right _ _
  ·exact le_add_right _ _
  ·exact le_add_right _ _
  ·exact ao _
  ·exact le_add_right _ _
 exact g.fpOk f (g.hok.fresh f)
noncomputable def zip2:Option W->Option W->Option W
 |some x,some y=>some (.tup [x,y])|_,_=>none
def Zo (w a:W)(n:Nat):jv:=⟨λA i=>match zW w A,zW a A with
 |some us,some vs=>some (zip2 us[i]? vs[i]?)|_,_=>none,n⟩
def fm {K:Frag}{w a:W}{p P:Addr}(q:RV K φ H w (.ref p))(Q:RV K φ H a (.ref P)):Z5 K φ H (Zo w a n) (UQ (Qw w) (Qw a) K p P):=λi c C A lw S=>by
 unfold Zo;dsimp only;cases es:zW w A with
 |none=>exact⟨λ_ z=>(by cases z),λz=>(by cases z)⟩|some us=>
  cases es':zW a A with
  |none=>exact⟨λ_ z=>(by cases z),λz=>(by cases z)⟩|some vs=>
   dsimp only;obtain⟨xs,b,f⟩:=Wi q lw S es;obtain⟨Y,h,d⟩:=Wi Q lw S es';have non:∀{us:List W}{xs:List V},zu K c C us xs->us[i]? =none->xs[i]? =none:=λr e=>by
    rw[List.getElem?_eq_none_iff]at e ⊢;rw[<- r.length];exact e
   cases j:us[i]? with
   |none=>exact⟨λ_ z=>(by cases z),λ_=>⟨xs,Y,b,h,.inl (non f j)⟩⟩|some x=>
    cases E:vs[i]? with
    |none=>exact⟨λ_ z=>(by cases z),λ_=>⟨xs,Y,b,h,.inr (non d E)⟩⟩|some y=>
     refine⟨λu z=>?_,λz=>(by cases z)⟩
     cases z;obtain⟨l,f1,f2⟩:=f.get j;obtain⟨v,g,f4⟩:=d.get E;refine⟨⟨xs,Y,l,v,b,h,f1,g⟩,λX H1 ⟨t,I,D,o,m,ht,ex,s⟩=>?_⟩;subst ex s;have g1:=o xs b;have g2:=m Y h;rw[f1]at g1;cases g1;rw[g]at g2;cases g2;obtain⟨a1,a2,B⟩:=Ze S ht (.cons f2 (.one f4));exact⟨a1,a2,B⟩
def QA (m m':Ev):Ei:=λρ A=>(m ρ A).bind λw A1=>(m' ρ A1).bind λa A2=>match zW w A2,zW a A2 with
 |some us,some _=>.ok (Zo w a us.length) A2|_,_=>.bad
variable {K:Frag}{c:Expr}
noncomputable def MY:Ev:=λ_ A=>.ok (.ref A.length) (A++[.dct []])
noncomputable def QB:W->Option Key
 |.int i=>some (.inl i)|_=>none
noncomputable def yi (k:Key):List (Key×W)->Option W
 |[]=>none|(j,w)::r=>if j=k then some w else yi k r
theorem X3 (k:Key):∀{kvs:List (Key×W)}{us:List (Key×V)},us.map (·.1)=kvs.map (·.1)->zu K φ H (kvs.map (·.2)) (us.map (·.2))->
  (∀w,yi k kvs=some w->∃v,yP us k=some v/\RV K φ H w v)/\(yi k kvs=none->yP us k=none)
 |[],[],_,_=>⟨λw h=>(by cases h),λ_=>rfl⟩|[],_::_,h,_=>by simp at h|_::_,[],h,_=>by simp at h|(j,w)::kvs,(J,v)::us,h,r=>by
  simp only[aF,List.cons.injEq]at h;obtain⟨g,l,e,d,c⟩:=r;simp only[aF,List.cons.injEq]at e;obtain⟨rfl,rfl⟩:=e;have i:=X3 k h.2 c;have b:J=j:=h.1;subst b
  by_cases a:J=k
  ·refine⟨λf hw=>⟨v,WA a,?_⟩,λhn=>?_⟩
   ·unfold yi at hw;rw[ah a]at hw;cases hw;exact d
   ·unfold yi at hn;rw[ah a]at hn;cases hn
  ·unfold yi
   rw[aj a,Wr (p:=(J,v)) a];exact i
theorem zL.dct {A:Hx}{kvs:List (Key×W)}(S:zL K φ A H)(q:RV K φ H (.ref n) v)(e:A[n]? =some (.dct kvs)):∃p us,v=.ref p/\φ[n]? =some p/\H p=some (.dK us)/\us.map (·.1)=kvs.map (·.1)/\zu K φ H (kvs.map (·.2)) (us.map (·.2)):=by
 obtain⟨p,rfl,a⟩:=q;obtain⟨P,h,us,d,c,b⟩:=S.ob n _ e;rw[a]at h;cases h;exact⟨p,us,rfl,a,d,c,b⟩
def Q8:W->W->Hx->R W:=λd k A=>match d,QB k with
 |.ref n,some k=>match A[n]? with
  |some (.dct kvs)=>match yi k kvs with
   |some w=>.ok w A|none=>.bad
  |_=>.bad
 |_,_=>.bad
def An:V->List V->Hp->VK->Prop:=λx vs H Q=>∃p us k d,x=.ref p/\vs=[kV k,d]/\H p=some (.dK us)/\us.length<sizeLine/\(∀v,yP us k=some v->Q v H)/\(yP us k=none->Q d (upd H p (.dK (putK us k d))))
def EJ:KP X "dict.setdefault" An:=by
 intro pins s σ H x vs v us Q I i j h;obtain⟨p,kvs,k,d,rfl,rfl,f,A,n,m⟩:=h;cases i;obtain⟨U,u,rfl,l,c⟩:=j.two;obtain⟨z,hd,ws,rel,g⟩:=W9 I.hok f;refine call_meetsIn PySem.F.slot_dict_setdefault g.typeIs PySem.F.entry_dict_setdefault (PySem.F.args_dict_setdefault_3 _ _ _) (kt_meets_setdefault (yk X.prog X.w) p (Kj l) hd u) ⟨ws,g,by rw[<- rel.length];exact z,λv o=>?_,λhn h' D t=>?_⟩
 ·have r:=rel.val k
  rw[o]at r;cases e:yP kvs k with
  |none=>rw[e]at r;exact r.elim|some a=>rw[e]at r;exact⟨a,H,I.tok _,r,n a e⟩
 ·have r:=rel.val k
  rw[hn]at r;cases e:yP kvs k with
  |some a=>rw[e]at r;exact r.elim|none=>
   have b:(putK kvs k d).length<=sizeLine:=by have:=Wb kvs k d;omega
   have he:∃q,h'.get? p=some q:=let ⟨q,_,_,y,_⟩:=D;⟨q,y⟩
   exact⟨d,_,WK I (by rw[f];exact True.intro) t he (VC b hd (rel.put k c) D),c,m e⟩
noncomputable def GI (x:W)(A:Hx):Bool:=match x with
 |.ref n=>match A[n]? with
  |some (.dct _)=>true|_=>false
 |_=>false
def ZE:W->W->W->Hx->R W:=λd k v A=>match d,QB k with
 |.ref n,some k=>match A[n]? with
  |some (.dct kvs)=>if kvs.length<zQ then(match yi k kvs with
   |some w=>.ok w A|none=>.ok v (A.set n (.dct (kvs++[(k,v)])))) else .bad
  |_=>.bad
 |_,_=>.bad
def J8 (g:W->W->W->Hx->R W)(a b c:Ev):Ev:=λρ A=>(a ρ A).bind λx A1=>if GI x A1 then(b ρ A1).bind λy A2=>(c ρ A2).bind λz d=>g x y z d else .bad
def Cz {A:Hx}{w:W}(S:zL K φ A H)(q:RV K φ H w v)(e:GI w A=true):GU K "dict" v H:=by
 unfold GI at e;cases w with
 |ref n=>
  dsimp only at e;cases E:A[n]? with
  |none=>rw[E]at e;cases e|some o=>cases o with
   |dct ws=>obtain⟨p,us,rfl,_,h,_⟩:=S.dct q E;exact .inr (.inr (.inl ⟨rfl,.inl ⟨us,h⟩⟩))|_=>rw[E]at e;cases e
 |_=>cases e
end
def UW (d:Addr)(o:Obj)(us:List (Key×V)):It:=
 ⟨λi H=>H d=some (.frz o (.dK us))/\i<us.length,λi H x h=>∃t p,us[i]? =some p/\H t=none/\x=.ref t/\h=upd H t (.tup [kV p.1,p.2]),λi H=>H d=some (.frz o (.dK us))/\us[i]? =none⟩
def fo {k:Key}(h:(yk P w).is k u=true):RelV (kV k) u:=by
 rw[Fu]at h;rcases g7 h with ⟨i,t,rfl,rfl⟩|⟨x,t,rfl,rfl⟩
 ·exact⟨t,rfl⟩
 ·exact⟨t,rfl⟩
theorem KV.at:∀{us:List (Key×V)}{vs:List (Key×Value)}{i:Nat}{p:Key×V},KV us vs->us[i]? =some p->∃u,vs[i]? =some (p.1,u)/\RelV p.2 u
 |[],_,_,_,_,e=>by simp at e|q::us,_,0,p,.cons (b:=b) r t,e=>by
  simp at e;subst e;exact⟨b.2,by simp only[List.getElem?_cons_zero];rw[r.1],r.2⟩
 |q::us,_,i+1,p,.cons r t,e=>by
  obtain⟨u,H,h⟩:=KV.at (i:=i) (p:=p) t (by simpa using e)
  exact⟨u,by simpa using H,h⟩
section
def _root_.L2.Inv.frzD {d:Addr}{o:Obj}{us:List (Key×V)}{f:Nat}(I:Inv X pins σ H s)(h:H d=some (.frz o (.dK us)))(p:∃E,o.data=.dict E f):∃vs,KV us vs/\s.heap.DictAt (yk X.prog X.w) d vs f:=by
 obtain⟨a,z,hd,vs,rel,D⟩:=I.hok d _ h;obtain⟨i,o',es',e,g,c,r⟩:=D.dictAt;rw[a]at e;cases e;obtain⟨E,he⟩:=p;have b:=c;rw[he]at b;injection b with l j
 subst j;exact⟨vs,rel,o,es',a,g,c,r⟩
end
def DL:entryFor table "dict_itemiterator.__iter__"=some Builtin.«dict_keyiterator.__iter__»:=entryFor_alias (id' := "dict_keyiterator.__iter__") (by kernel_rfl)
 (by first|rfl|decide +kernel|(unfold String.splitOn;simp +decide [String.splitOnAux])) (by decide +kernel) (by kernel_rfl)
def FI {K:Frag}(d it:Addr)(o:Obj)(us:List (Key×V))(l:Nat)(j:∃T,o.data=.dict T l):
  Turn P w K (.Tuple elts kk tpos) (UW d o us) [it] it (λi h=>∃ok a,IsItemIter h it d i us.length l ok a) where
 mem:=by simp
 obj:=λi h ⟨ok,a,st⟩ b c=>by
  rw[cC.mp c];exact⟨_,st,λv e=>nomatch e⟩
 keep:=λi h h' ⟨ok,a,st⟩ k=>⟨ok,a,k it (by simp) _ st⟩
 item:=by
  intro X q hw r x i pins s σ H E I hf st m;subst q hw r;obtain⟨ok,a,st⟩:=st;obtain⟨hd,g⟩:=m;obtain⟨vs,rel,D⟩:=I.frzD hd j;obtain⟨u,J,B⟩:=KV.at rel (i:=i) (p:=us[i]) (by simp[g])
  have S:IsItemIter s.heap it d i vs.length l ok a:=by rw[<- rel.length];exact st
  refine wpAny_pyNext_items_item S D J λkey N y L hT hsz kp=>⟨_,rfl,wpAny_letOwnedTupleGo_items L λM n f=>?_⟩;have lt:it<s.heap.objs.size:=aH st;have U:M.get? s.heap.objs.size=some { cls:=.type "tuple",data:=.seq #[key,u] }:=f.extBut _ _ (bt lt) hT;refine⟨.ref s.heap.objs.size,upd H s.heap.objs.size (.tup [kV us[i].1,us[i].2]),?_,rfl,⟨s.heap.objs.size,us[i],by simp[g],I.hok.fresh (ao _),rfl,rfl⟩,⟨_,_,by rw[rel.length];exact n⟩,λb c=>?_⟩
  ·refine I.spun (fp:=[it]) (t':=s.toks) (λb ob c t=>?_) hf (ao _) ?_
   ·exact f.extBut _ _ (λz=>c (by simp[z])) (kp b ob (λz=>c (by simp[z])) t)
   ·exact⟨by show 2<=sizeLine;decide,[key,u],.cons (fo y) (.cons B .nil),_,U,⟨rfl,rfl⟩,0,rfl⟩
  ·show upd H s.heap.objs.size _ b=none
   have bn:b≠s.heap.objs.size:=λz=>by rw[cC.mp c]at z;exact absurd lt (by rw[z];exact a5 _)
   rw[qx bn];exact(hf b c).1
 done:=by
  intro X q hw r x i pins s σ H E I hf st m;subst q hw r;obtain⟨ok,a,st⟩:=st;obtain⟨hd,g⟩:=m;obtain⟨vs,rel,D⟩:=I.frzD hd j;have S:IsItemIter s.heap it d i vs.length l ok a:=by rw[<- rel.length];exact st
  have hn:vs[i]? =none:=by
   rw[List.getElem?_eq_none_iff]at g ⊢;rw[<- rel.length];exact g
  exact wpAny_pyNext_items_end (I.ok.hd x) S D hn λN C=>⟨rfl,I.spun0 (fp:=[it]) (t':=s.toks) (λb ob c t=>C b ob (λz=>c (by simp[z])) t) hf⟩
 self:=λA i s Q E ⟨ok,a,st⟩ h=>by
  have hT:s.TypeIs (.ref it) "dict_itemiterator":=⟨_,st,rfl⟩;refine wpAny_pyIter_slot hT F.slot_dict_itemiterator_iter (wpAny_call_entry F.slot_dict_itemiterator_iter hT DL ?_ (F.args_dict_itemiterator_iter_1 _));show wpAny _ _ (ret (.ref it)) _ _ s;exact cw ⟨_,rfl,"dict_itemiterator",_,hT,F.slot_dict_itemiterator_next.lookup,h⟩
section
variable {a b:Expr}{m:Ev}
def fq (td:TE):TI:=λσ H R=>td σ H λx H1=>∃d us,x=.ref d/\H1 d=some (.dK us)/\∀o,R (UW d o us) (upd H1 d (.frz o (.dK us)))
def C6 {td:TE}(u:PE X a td)(i:attributeBase a "items" X.env (eval a X.env)=eval a X.env)(g:(apos.endLine==cpos.line)=true):
  PI X (.Tuple elts kk tpos) (.Call (.Attribute a "items" apos) [] [] cpos) (fq td):=by
 intro pins s σ H R I h;refine wpAny_Call_method0_late i g (zU (u pins s σ H _ I h) λv s1 ⟨x,H1,m,n,d,us,ex,hd,q⟩=>?_);subst ex;cases n;obtain⟨z,f,vs,rel,D⟩:=W9 m.hok hd;obtain⟨o,l,p,c,hex,t,r⟩:=id D;refine⟨"dict","dict.items",PySem.F.plainAttrs_dict,PySem.F.slot_dict_items,PySem.F.type_dict_items,D.typeIs,λb E=>by cases E;exact⟨o,c,hex.2.1⟩,Calls.callWith_builtin rfl (PySem.evalArgs_none ?_)⟩
 refine call_meetsIn PySem.F.slot_dict_items D.typeIs PySem.F.entry_dict_items (PySem.F.args_dict_items_1 _) (meets_dict_items (yk X.prog X.w) d f) ⟨⟨vs,D⟩,?_⟩;have B:Inv X pins σ (upd H1 d (.frz o (.dK us))) { s1 with heap:=s1.heap,toks:=s1.toks }:=m.write (x:=d) (e:=d) (o:=.frz o (.dK us)) (t':=s1.toks) (h':=s1.heap) (by rw[hd];exact True.intro) (.inl rfl) (λ_ _ _ q=>q) ⟨o,c⟩ ⟨c,z,f,vs,rel,D⟩
 have j:Inv X pins σ (upd H1 d (.frz o (.dK us))) { s1 with heap:=s1.heap.push { cls:=.type "dict_items",data:=.fields #[.ref d] } }:=B.kept (t':=s1.toks) λb ob q=>ae _ q
 have A:(s1.heap.push { cls:=.type "dict_items",data:=.fields #[.ref d] }).DictAt (yk X.prog X.w) d vs p:=⟨o,l,ae _ c,hex,t,r⟩;refine wpAny_pyIter_items (s:={ s1 with heap:=s1.heap.push { cls:=.type "dict_items",data:=.fields #[.ref d] } }) ⟨_,au _ rfl,rfl,rfl⟩ A ?_
 refine⟨_,[_],_,_,_,rfl,j.kept (t':=s1.toks) λb ob q=>ae _ q,FI d _ o us p ⟨l,t⟩,⟨.none,.none,?_⟩,λb y=>?_,q o⟩
 ·rw[rel.length];exact au _ rfl
 ·have E:=cC.mp y
  subst E;exact j.fpOk (ao _) (j.hok.fresh (ao _))
noncomputable def kW:Key->W
 |.inl i=>.int i|.inr x=>.str x
def Ye (kvs:List (Key×W)):jv:=⟨λ_ i=>some (kvs[i]?.map λp=>.tup [kW p.1,p.2]),kvs.length⟩
def Y7 (m:Ev):Ei:=λρ A=>match A with
 |[]=>(m ρ []).bind λw A1=>match w,A1 with
  |.ref 0,[.dct kvs]=>if qH (kvs.map (·.2)) then .ok (Ye kvs) [] else .bad|_,_=>.bad
 |_=>.bad
def ft {K:Frag}{d:Addr}{o:Obj}{us:List (Key×V)}{kvs:List (Key×W)}(hd:H d=some (.frz o (.dK us)))(f:us.map (·.1)=kvs.map (·.1))(A:zu K φ H (kvs.map (·.2)) (us.map (·.2)))(n:qH (kvs.map (·.2))=true):
  Z5 K φ H (Ye kvs) (UW d o us):=λi a g I lw S=>by
 unfold Ye;dsimp only;have h:=lw.fz d o _ hd;have E:zu K a g (kvs.map (·.2)) (us.map (·.2)):=A.nrm lw.tp lw.fz n;have l:us.length=kvs.length:=by have:=congrArg List.length f;simpa using this
 cases e:kvs[i]? with
 |none=>
  refine⟨λ_ z=>(by cases z),λ_=>⟨h,?_⟩⟩
  rw[List.getElem?_eq_none_iff]at e ⊢;rw[l];exact e
 |some p=>
  have m:i<kvs.length:=(cA.mp e).1;refine⟨λu z=>?_,λz=>(by cases z)⟩
  cases z;refine⟨⟨h,by rw[l];exact m⟩,λx H1 ⟨t,q,b,ht,ex,y⟩=>?_⟩
  subst ex y;have j:q.1=p.1:=by
   have a1:(us.map (·.1))[i]? =some q.1:=by simp[b]
   rw[f]at a1;simp[e]at a1;exact a1.symm
  have a2:(kvs.map (·.2))[i]? =some p.2:=by simp[e]
  obtain⟨v,c,w⟩:=E.get a2;have s:v=q.2:=by simp[b]at c;exact c.symm
  subst s;rw[j];have r:RV K a g (kW p.1) (kV p.1):=by cases p.1<;>rfl
  obtain⟨D,C,B⟩:=Ze S ht (.cons r (.one w));exact⟨D,C,B⟩
end
mutual
noncomputable def W.beq:W->W->Bool
 |.non,.non=>true|.bl a,.bl b=>a==b|.int a,.int b=>decide (a=b)|.str a,.str b=>decide (a=b)|.tup a,.tup b=>Kw a b|_,_=>false
noncomputable def Kw:List W->List W->Bool
 |[],[]=>true|a::as,b::bs=>a.beq b&&Kw as bs|_,_=>false
end
mutual
theorem W.eq_of:∀{a b:W},a.beq b=true->a=b
 |.non,.non,_=>rfl|.bl a,.bl b,h=>by have h':(a==b)=true:=h;rw[aV]at h';rw[h']|.int a,.int b,h=>by have h':decide (a=b)=true:=h;rw[af]at h';rw[h']|.str a,.str b,h=>by have h':decide (a=b)=true:=h;rw[af]at h';rw[h']|.tup a,.tup b,h=>by have h':Kw a b=true:=h;rw[NS h']|.non,.bl _,h=>nomatch h|.non,.int _,h=>nomatch h|.non,.str _,h=>nomatch h|.non,.tup _,h=>nomatch h|.non,.ref _,h=>nomatch h
 |.bl _,.non,h=>nomatch h|.bl _,.int _,h=>nomatch h|.bl _,.str _,h=>nomatch h|.bl _,.tup _,h=>nomatch h|.bl _,.ref _,h=>nomatch h
 |.int _,.non,h=>nomatch h|.int _,.bl _,h=>nomatch h|.int _,.str _,h=>nomatch h|.int _,.tup _,h=>nomatch h|.int _,.ref _,h=>nomatch h
 |.str _,.non,h=>nomatch h|.str _,.bl _,h=>nomatch h|.str _,.int _,h=>nomatch h|.str _,.tup _,h=>nomatch h|.str _,.ref _,h=>nomatch h
 |.tup _,.non,h=>nomatch h|.tup _,.bl _,h=>nomatch h|.tup _,.int _,h=>nomatch h|.tup _,.str _,h=>nomatch h|.tup _,.ref _,h=>nomatch h
 |.ref _,.non,h=>nomatch h|.ref _,.bl _,h=>nomatch h|.ref _,.int _,h=>nomatch h|.ref _,.str _,h=>nomatch h|.ref _,.tup _,h=>nomatch h|.ref _,.ref _,h=>nomatch h
theorem NS:∀{a b:List W},Kw a b=true->a=b
 |[],[],_=>rfl|a::as,b::bs,h=>by
  have h':(a.beq b&&Kw as bs)=true:=h;rw[ak]at h';rw[W.eq_of h'.1,NS h'.2]
 |[],_::_,h=>nomatch h
 |_::_,[],h=>nomatch h
end
section
variable {K:Frag}
def FD (K:Frag)(x:Str)(st:Stmt):Prop:=∃f fd,Zt K x x st f fd/\nsIn K mainGlobals x=some (some (.ref f))
def zcH {st:Stmt}{f:Addr}{b:Value}{o an:cp}{kV doc pm C ct:Value}(a:nsIn K mainGlobals x=some (some (.ref f)))
  (l:K.lookup f=some ⟨b,o,.func (fnOf x x (JU st) (ZD st) (qu st) .none kV doc pm an C ct),osl⟩)(c:codeIn K C x=true)(k:keepIn K (.ref f)=true):FD K x st:=⟨f,_,ed l c k,a⟩
def CD (K:Frag)(x:Str)(i:Int):Prop:=∃t,nsIn K mainGlobals x=some (some (.int i t))
def zcz {i:Int}{t:Tok}(a:nsIn K mainGlobals x=some (some (.int i t))):CD K x i:=⟨t,a⟩
def N9 (f:Fn):Prop:=∀ns:b3,ns.length<=63->∃A,f [.ref 0] [.ro (ns.map W.int)]=.ok (.bl true) A
def Et (c:Gs H)(S:qC K H a (ns.map V.int)):zL K [a] [.ro (ns.map W.int)] H:=by
 refine⟨rfl,λi j b o o' m l e d m1 _=>?_,λn o h=>?_⟩
 ·have g:i=0:=by have:=(cA.mp e).1;simp at this;omega
  have f:j=0:=by have:=(cA.mp d).1;simp at this;omega
  omega
 ·have hn:n=0:=by have:=(cA.mp h).1;simp at this;omega
  subst hn;simp at h;subst h;refine⟨a,rfl,ns.map V.int,?_,zu.ints.mpr rfl⟩;rcases S with (z|z)|z
  ·rcases c a with q|⟨ob,xs,q⟩
   ·rw[z]at q;cases q
   ·rw[z]at q;cases q
  ·exact .inl z
  ·exact .inr z
def zb2 {l:PySem.W.OpenLaw}{k:Nat}{q:Program}{loose:b9}{XP:(cg)->Heap->Prop}{d:DefRec}{Kp:Params->Frag}{f:Fn}(ok:N9 f)
  (hn:l.most=some 63)(b:d.params.defaults=[])(i:jx k callerA)(Y:∀(w:World)(h:Heap),YP w h->(Kp w.params).In h)
  (F:∀(w:World)(mg:cg)(c:Addr)(h:Heap),(Kp w.params).In h->h.Ns mainGlobals mg->mg d.name=some (.ref c)->
   ∃fd:FuncData,(∀(s:Shared)(u:Value),BindsTo s fd ⟨[u],[]⟩ [(x,u)])/\∀base:Heap,(Kp w.params).In base->base.Ns mainGlobals mg->yR l.prog w (Kp w.params) mg base gp k c fd [x] (ZX (Kp w.params) 1 f)):
  PySem.W.WalkO q loose XP YP l.row.toRowW d [] (λf vs=>PySem.call f vs):=
 L2.Aa (n:=63) (k:=k) (x:=x) (CX:=λ_=>gp) (sp:=λw=>ZX (Kp w.params) 1 f) hn (by decide) b i Y F (λw H a ns j m S=>by
  refine⟨rfl,[a],[.ro (ns.map W.int)],[.ref 0],Et m S,.one ⟨a,rfl,rfl⟩,?_⟩;obtain⟨A,e⟩:=ok ns j;rw[e];exactλg o v _ _ r=>r) λ_ _ _ _ _ z=>z
end
open PySem PySem.Spec PyProof.Rows L2 Mi
@[irreducible] noncomputable def zw (X:Cx)(x:XR)(e:Expr)(m:Ev):Prop:=Mi.SE X x e m
def VJ:@zw=@Mi.SE:=by
 funext X xr e m
 unfold zw
 rfl
@[irreducible] noncomputable def gX (X:Cx)(x:XR)(e:cc)(m:Ea):Prop:=Mi.SA X x e m
def V0:@gX=@Mi.SA:=by
 funext X xr es m
 unfold gX
 rfl
@[irreducible] noncomputable def yE (X:Cx)(x:XR)(e:Expr)(m:Ev):Prop:=Mi.ST X x e m
def VX:@yE=@Mi.ST:=by
 funext X xr e m
 unfold yE
 rfl
@[irreducible] noncomputable def gu (X:Cx)(x:XR)(e:Expr)(m:Ev):Prop:=Mi.SW X x e m
def VN:@gu=@Mi.SW:=by
 funext X xr e m
 unfold gu
 rfl
@[irreducible] noncomputable def yU (X:Cx)(x:XR)(st:Stmt)(m:Ex):Prop:=Mi.SS X x st m
def VT:@yU=@Mi.SS:=by
 funext X xr st m
 unfold yU
 rfl
@[irreducible] noncomputable def wd (X:Cx)(x:XR)(st:cq)(m:Ex):Prop:=Mi.KA X x st m
def Vj:@wd=@Mi.KA:=by
 funext X xr st m
 unfold wd
 rfl
@[irreducible] noncomputable def ki (X:Cx)(x:XR)(t e:Expr)(m:Ei):Prop:=Mi.SI X x t e m
def VD:@ki=@Mi.SI:=by
 funext X xr tg e m
 unfold ki
 rfl
@[irreducible] noncomputable def wq (X:Cx)(t:Expr)(m:Tg):Prop:=Mi.SG X t m
def VL:@wq=@Mi.SG:=by
 funext X tg m
 unfold wq
 rfl
@[irreducible] noncomputable def Z0 (X:Cx)(x:XR)(e:Expr)(m:jU):Prop:=Mi.SF X x e m
def VM:@Z0=@Mi.SF:=by
 funext X xr e m
 unfold Z0
 rfl
@[irreducible] noncomputable def wJ (X:Cx)(x:XR)(e:Expr)(m:jU):Prop:=Mi.SQ X x e m
def VR:@wJ=@Mi.SQ:=by
 funext X xr e m
 unfold wJ
 rfl
@[irreducible] noncomputable def gK (X:Cx)(e:cc)(m:Ev):Prop:=Mi.KH X e m
def Vq:@gK=@Mi.KH:=by
 funext X es m
 unfold gK
 rfl
@[irreducible] noncomputable def gn (X:Cx)(elt:Expr)(gens:List Comprehension)(sc:Scope)(c:Pos)(d:Nat)(em:Em):Prop:=Mi.SM X elt gens sc c d em
def VW:@gn=@Mi.SM:=by
 funext X elt gens sc cpos d em
 unfold gn
 rfl
section
variable {xr:XR}{K:Frag}{a b c:Expr}{es:cc}{m ma mb mc:Ev}{m1 m2:Ex}{st:Stmt}{rest:cq}
def zY:@zw=@Mi.SE/\@gX=@Mi.SA/\@yE=@Mi.ST/\@gu=@Mi.SW/\@yU=@Mi.SS/\@wd=@Mi.KA/\@ki=@Mi.SI/\@wq=@Mi.SG/\@Z0=@Mi.SF/\@wJ=@Mi.SQ/\@gK=@Mi.KH/\@gn=@Mi.SM:=⟨VJ,V0,VX,VN,VT,Vj,VD,VL,VM,VR,Vq,VW⟩
def zp {m:Ea}(d:zw X xr e ma)(r:gX X xr es m)(s:starEach (e::es) X.env=(false,eval e X.env)::starEach es X.env:=by rfl):gX X xr (e::es) (zh ma m):=by
 try simp only[zY]at*
 exact PA.imp (jq d r s) λσ H Q ⟨φ,A,ρ,S,re,h⟩=>by
   refine tM.go S re (z0.mp h) λw A1 b H1 v g l j c=>?_;refine GK.go j (re.mono l) (qt (z0.mp g) (λ_ _ z=>z) λ_ _ z=>z.mono l) λo A2 a n v2 f L i q=>?_;exact f a n _ (l.trans L) i (.cons (c.mono L) q)
def zB:gX X xr [] zo:=by
 try simp only[zY]at*
 exact PA.imp jP λσ H Q ⟨φ,A,ρ,S,re,h⟩=>h φ H [] .refl S .nil
def yO (H:zw X xr a ma)(h:zw X xr b mb):zw X xr (.BinOp a .Add b pos) (zi qY ma mb):=by
 try simp only[zY]at*
 exact Q6 (dw.or (AL.or (DK.or d7))) eR Bk H h
def Qf {q:jU}(H:X.calm=true)(hm:X.mg "all"=none)(a:wJ X xr e q)(h:Gl X "all":=by rfl)(he:starEach [e] X.env=(false,eval e X.env)::starEach [] X.env:=by rfl):
  zw X xr (.Call (.Name "all" p) [e] [] pos) (mQ gM q):=by
 try simp only[zY]at*
 exact Ge (D8 H) eO Bh hm (by rfl) a h (by decide) (by decide) he (by rfl)
def Zb {rest:cc}(f:zw X xr a ma)(e:zw X xr (.BoolOp .And (b::rest) pos) mb):zw X xr (.BoolOp .And (a::b::rest) pos) (yg ma mb):=by
 try simp only[zY]at*
 exact PE.imp (cW f e) λσ H Q ⟨φ,A,ρ,S,re,h⟩=>by
   refine tM.go S re (z0.mp h) λw A1 d H1 v c l s q=>?_;cases w with
   |bl k=>
    refine⟨k,q,?_⟩;cases k with
    |true=>rw[ah rfl];exact⟨d,A1,ρ,s,re.mono l,qt c (λ_ _ z=>z.mono l) λ_ _ z=>z.mono l⟩|false=>rw[aj az];exact c d H1 _ l s rfl
   |non=>cases c|int _=>cases c|str _=>cases c|tup _=>cases c|ref _=>cases c|clo _ _ _=>cases c|xc _=>cases c
def yJ {i j}:zw X xr (.Constant (.bool i) j pos) (qi (.bl i)):=by
 try simp only[zY]at*
 exact PE.imp cL λσ H Q ⟨φ,A,ρ,S,r,h⟩=>h φ H _ .refl S rfl
def kK {g:W->W->Hx->R W}(h:ky X op g)(c:zw X xr a ma)(H:zw X xr b mb)(e:op≠.In:=by decide)(d:op≠.NotIn:=by decide):zw X xr (.Compare a [op] [b] pos) (zi g ma mb):=by
 try simp only[zY]at*
 exact let ⟨r,a1,a2,A⟩:=h.ex;NV a1 a2 A c H (h.mks b e d)
def N0 {o:CmpOp}{g g':W->W->Hx->R W}(h:ky X op g)(h':ky X o g')(e:zw X xr a ma)(d:zw X xr b mb)(H:zw X xr c mc)(hm:lastMarks [op,o] [b,c]=false:=by with_unfolding_all rfl):
  zw X xr (.Compare a [op,o] [b,c] pos) (y9 g g' ma mb mc):=by
 try simp only[zY]at*
 exact let ⟨r,a1,a2,A⟩:=h.ex;let ⟨j,i,f,B⟩:=h'.ex;Cj a1 a2 A i f B e d H hm
def zZ {k:Nat}{f:Fn}{m:Ea}(F:zK X.prog X.w X.K X.mg X.base k x n f)(r:jx k X.A)(s:gX X wt (e::es) m)(g:Yj m n:=by repeat' (first|exact qz|refine zR ?_))(j:Gl X x:=by rfl)
  (c:(x==("__debug__":Str))=false:=by decide)(he:starEach (e::es) X.env=(false,eval e X.env)::starEach es X.env:=by rfl)(l:(backTo pos (starEach es X.env)).any (·.1)=false:=by rfl):
  zw X wt (.Call (.Name x p) (e::es) [] pos) (zC f m):=by
 try simp only[zY]at*
 obtain⟨B,fd,P,F,hm,i,o⟩:=F;refine PE.imp (BX F r j hm i o .nil d9 s c he l) λσ H Q ⟨φ,A,ρ,S,re,h⟩=>?_;have h':=z0.mp h;refine⟨φ,A,ρ,S,re,?_⟩;cases E:m ρ A with
 |ok ws A1=>
  rw[E]at h';intro b H1 vs L u q;have v:vs.length=n:=by rw[<- q.length];exact g ρ A ws A1 E
  rw[bI];exact⟨v,b,A1,ws,u,q,qt h' (λ_ _ z=>z.mono L) λx A2 z a y d t=>(z a y (L.trans d) t).elim⟩
 |exc x A1=>rw[E]at h';exact h'|bad=>rw[E]at h';exact h'
def V2 {g:W->W->Hx->R W}(h:Km X op g)(c:zw X xr a ma)(H:zw X xr b mb)(hm:behindInMarks op b=false:=by rfl):zw X xr (.Compare a [op] [b] pos) (zi g ma mb):=by
 try simp only[zY]at*
 exact let ⟨r,a1,a2,A⟩:=h.ex;NV a1 a2 A c H hm
def Dd (t:zw X xr a ma)(he:zw X xr b mb)(s:starEach [b] X.env=(false,eval b X.env)::starEach [] X.env:=by rfl)
  (c:attributeBase a "count" X.env (eval a X.env)=eval a X.env:=by rfl)
  (f:((backTo cpos (starEach [b] X.env)).all (λx=>!x.1)&&(backToKw cpos (keywordEach [] X.env)).all (λx=>x.1.isSome)
   && decide ([b].length+([]:cn).length+(if ([]:cn).isEmpty then 0 else 1)<30))=true:=by rfl)(e:(apos.endLine==cpos.line)=true:=by rfl):
  zw X xr (.Call (.Attribute a "count" apos) [b] [] cpos) (W5 Y5 ma mb):=by
 try simp only[zY]at*
 exact PE.imp (eZ PySem.F.slot_tuple_count PySem.F.type_tuple_count Cg t (jq he jP s) c f e s (by rfl)) λσ H Q ⟨φ,A,ρ,S,re,h⟩=>by
   refine tM.go S re (z0.mp h) λw A1 j H1 v i L y n=>?_;cases w with
   |tup ws=>
    obtain⟨p,vs,rfl,t1,r⟩:=n;refine⟨p,vs,rfl,t1,?_⟩;refine tM.go y (re.mono L) (qt (z0.mp i) (λ_ _ z=>z) λ_ _ z=>z.mono L) λm A2 g B v2 d l u q=>?_;unfold Y5 at d;dsimp only at d
    by_cases hf:(yo m&&ws.all yo)=true
    ·rw[ah hf]at d
     rw[ak]at hf;obtain⟨o,I⟩:=Rg q hf.1 (r.mono l) hf.2;refine⟨p,vs,v2,rfl,rfl,l.tp _ _ t1,Wn q hf.1,o,?_⟩;rw[I];rw[Nj]at d;exact d g B _ (L.trans l) u (by simp[RV])
    ·rw[aj hf]at d;exact d.elim
   |_=>exact i.elim
def Au:zw X xr (.Dict [] [] pos) MY:=by
 try simp only[zY]at*
 exact PE.imp DW λσ H Q ⟨φ,A,ρ,S,re,h⟩ p a=>by
  obtain⟨l,s⟩:=S.alloc (o:=.dct []) a (u:=.dK []) ⟨[],jO,rfl,.nil⟩;exact h _ _ _ l s ⟨p,rfl,by rw[<- S.len];simp⟩
def Pn {k:Nat}(u:jx k X.A)(y:zw X xr a ma)(x:zw X xr b mb)(t:Uz b:=by intro _ _;rfl):zw X xr (.Subscript a b pos) (zi Q8 ma mb):=by
 try simp only[zY]at*
 exact PE.imp (AB (Mq u) y x t) λσ H Q ⟨φ,A,ρ,S,re,h⟩=>by
   refine tM.go S re (z0.mp h) λw A1 f H1 v B l C j=>?_;refine tM.go C (re.mono l) (qt (z0.mp B) (λ_ _ z=>z) λ_ _ z=>z.mono l) λg A2 d D v2 c L s q=>?_;unfold Q8 at c;cases w with
   |ref n=>
    cases g with
    |int i=>
     obtain rfl:=q;dsimp only[QB]at c;cases e:A2[n]? with
     |none=>rw[e]at c;exact c.elim|some o=>cases o with
      |dct kvs=>
       rw[e]at c;dsimp only at c;obtain⟨p,us,rfl,f1,g1,g2,g3⟩:=s.dct (j.mono L) e;cases E:yi (.inl i) kvs with
       |none=>rw[E]at c;exact c.elim|some w=>
        rw[E]at c;obtain⟨v,m,r⟩:=(X3 (.inl i) g2 g3).1 w E;refine⟨p,v,rfl,?_,c d D v (l.trans L) s r⟩;rw[<- m];exact Yf.k (k:=.inl i) g1
      |_=>rw[e]at c;exact c.elim
    |_=>exact c.elim
   |_=>exact c.elim
def PH {i:Int}{t:Tok}(g:Gl X x)(hm:X.mg x=some (.int i t))(hd:(x==("__debug__":Str))=false:=by decide):zw X xr (.Name x pos) (qi (.int i)):=by
 try simp only[zY]at*
 exact PE.imp (BG g hm (v:=.int i) ⟨t,rfl⟩ hd) λσ H Q ⟨φ,A,ρ,S,r,h⟩=>h φ H _ .refl S rfl
def fv {c:Expr}(f:yE X xr c mc)(i:zw X xr a ma)(g:zw X xr b mb):zw X xr (.IfExp c a b pos) (Lb mc ma mb):=by
 try simp only[zY]at*
 exact PE.imp (D2 f i g) λσ H Q ⟨φ,A,ρ,S,re,h⟩=>by
   refine tT.go S re (z0.mp h) λw A1 d=>?_;cases w with
   |bl k=>
    refine⟨k,rfl,λe H1 l s=>?_⟩;cases k with
    |true=>rw[ah rfl];exact⟨e,A1,ρ,s,re.mono l,qt d (λ_ _ z=>z.mono l) λ_ _ z=>z.mono l⟩|false=>rw[aj az];exact⟨e,A1,ρ,s,re.mono l,qt d (λ_ _ z=>z.mono l) λ_ _ z=>z.mono l⟩
   |non=>cases d|int _=>cases d|str _=>cases d|tup _=>cases d|ref _=>cases d|clo _ _ _=>cases d|xc _=>cases d
def zA {i j}:zw X xr (.Constant (.int i) j pos) (qi (.int i)):=by
 try simp only[zY]at*
 exact PE.imp cK λσ H Q ⟨φ,A,ρ,S,r,h⟩=>h φ H _ .refl S rfl
def JZ (t:Ty){P:Pos}(hm:X.mg "isinstance"=none)(c:X.mg x=none)(f:bootBuiltins x=some (.type t.nm))(i:zw X xr e m)(g:Gl X "isinstance":=by rfl)(d:Gl X x:=by rfl)
  (hn:x ≠ "__name__":=by decide)(hd:(x==("__debug__":Str))=false:=by decide)
  (a:starEach [e,.Name x P] X.env=(false,eval e X.env)::starEach [.Name x P] X.env:=by rfl)(j:(backTo pos (starEach [.Name x P] X.env)).any (·.1)=false:=by rfl):
  zw X xr (.Call (.Name "isinstance" p) [e,.Name x P] [] pos) (ZY t m):=by
 try simp only[zY]at*
 exact PE.imp (JK BJ g hm (by rfl) (jq i (jq (B9 d c f (v:=.ty t.nm) rfl hn hd) jP) a) (by decide) (by decide) a j) λσ H Q ⟨φ,A,ρ,S,re,h⟩=>by
   refine tM.go S re (z0.mp h) λw A1 b H1 v a l s q=>?_;cases E:QJ w A1 with
   |none=>rw[E]at a;exact a.elim|some t'=>
    rw[E]at a;exact⟨v,t',t,rfl,CG s q E,a b H1 _ l s rfl⟩
def jl (c:zw X xr a ma)(H:zw X xr b mb)(h:Nf b:=by intro _ _;rfl):zw X xr (.Subscript a b pos) (zi zM ma mb):=by
 try simp only[zY]at*
 exact PE.imp (dX d1 c H h) (zi.read eL eM)
def kx {q:jU}(hm:X.mg "len"=none)(H:wJ X xr e q)(h:Gl X "len":=by rfl)(he:starEach [e] X.env=(false,eval e X.env)::starEach [] X.env:=by rfl):
  zw X xr (.Call (.Name "len" p) [e] [] pos) (mQ qQ q):=by
 try simp only[zY]at*
 exact Ge Hz (λ_ _=>jy) AN hm (by rfl) H h (by decide) (by decide) he (by rfl)
def jF {q:jU}(h:Z0 X xr e q):zw X xr e (qm q):=by
 try simp only[zY]at*
 exact PE.imp h qm.read
def FL {P pos':Pos}(t:X.calm=true)(hm:X.mg "list"=none)(f:X.mg "range"=none)(u:zw X xr a ma)(o:Gl X "list":=by rfl)(g:Gl X "range":=by rfl)(s:starEach [a] X.env=[(false,eval a X.env)]:=by rfl)
  (d:starEach [.Call (.Name "range" P) [a] [] pos'] X.env=(false,eval (.Call (.Name "range" P) [a] [] pos') X.env)::starEach [] X.env:=by rfl):
  zw X xr (.Call (.Name "list" p) [.Call (.Name "range" P) [a] [] pos'] [] pos) (YX ma):=by
 try simp only[zY]at*
 exact PE.imp (Qd (FE t) o hm (by rfl) (jq (Nr g f (jq u jP (by rw[s];rfl)) s) jP d) (by decide) (by decide) d (by rfl)) λσ H Q ⟨φ,A,ρ,S,re,h⟩=>by
   refine tM.go S re (z0.mp h) λw A1 b H1 v c L z q=>?_;cases w with
   |int j=>
    obtain rfl:=q;dsimp only at c
    by_cases e:(je j&&decide (j.toNat<=zQ))=true
    ·rw[ah e]at c
     rw[ak,af]at e;refine⟨j,rfl,λp m=>⟨p,j,rfl,jO,gz e.1,gA e.2,λl n=>?_⟩⟩;have ln:Le X.K b H1 b (upd H1 p (.rng 0 j)):=Le.new m;have r:zu X.K b (upd H1 p (.rng 0 j)) ((List.range j.toNat).map λ(i:Nat)=>W.int i) (wI j.toNat):=by
      have:=(zu.ints (K:=X.K) (φ:=b) (H:=upd H1 p (.rng 0 j)) (ns:=(List.range j.toNat).map λ(i:Nat)=>(i:Int)) (vs:=wI j.toNat)).mpr (by unfold wI;simp)
      rw[aI]at this;exact this
     obtain⟨y,x,B⟩:=gG (z.lay m) n r;exact c _ _ _ ((L.trans ln).trans y) x B
    ·rw[aj e]at c;exact c.elim
   |_=>exact c.elim
def jM {m:Ea}(h:gX X xr es m)(H:Yj m n)(hn:n<=zQ:=by decide):zw X xr (.List es pos) (qF m):=by
 try simp only[zY]at*
 exact eE h λρ A ws a e=>by rw[H ρ A ws a e];exact gA hn
def YR {q:jU}(H:X.calm=true)(hm:X.mg "max"=none)(a:wJ X xr e q)(h:Gl X "max":=by rfl)(he:starEach [e] X.env=(false,eval e X.env)::starEach [] X.env:=by rfl):
  zw X xr (.Call (.Name "max" p) [e] [] pos) (mQ yw q):=by
 try simp only[zY]at*
 exact Ge (Ew H) eV BA hm (by rfl) a h (by decide) (by decide) he (by rfl)
def Om (e:X.calm=true)(hm:X.mg "min"=none)(n:zw X xr a ma)(m:zw X xr b mb)(l:Gl X "min":=by rfl)(r:starEach [a,b] X.env=(false,eval a X.env)::starEach [b] X.env:=by rfl)(o:starEach [b] X.env=(false,eval b X.env)::starEach [] X.env:=by rfl)(h:(backTo pos (starEach [b] X.env)).any (·.1)=false:=by rfl):
  zw X xr (.Call (.Name "min" p) [a,b] [] pos) (zi Ga ma mb):=by
 try simp only[zY]at*
 exact V9 (Ek e) Qq (λφ A H x y u v Q S d c p=>by
   obtain⟨i,j,s,E,q⟩:=Ql (K:=X.K) (f:=λi j=>.int (if j<i then j else i)) (g:=λi j=>.int (if j<i then j else i)) (λ_ _ _ _=>rfl) φ A H x y u v Q S d c p;subst s;subst E;exact⟨i,j,rfl,q⟩) hm (by rfl) n m l (by decide) (by decide) r o h
def Q2 (H:zw X xr a ma)(h:zw X xr b mb):zw X xr (.BinOp a .Mod b pos) (zi wA ma mb):=by
 try simp only[zY]at*
 exact Q6 dA Uj (VY BB λ_ _ _ _=>rfl) H h
def kY (H:zw X xr a ma)(h:zw X xr b mb):zw X xr (.BinOp a .Mult b pos) (zi ji ma mb):=by
 try simp only[zY]at*
 exact Q6 (dz.or d8) eS Am H h
def WM {j}:zw X xr (.Constant .none j pos) (qi .non):=by
 try simp only[zY]at*
 exact PE.imp cM λσ H Q ⟨φ,A,ρ,S,r,h⟩=>h φ H _ .refl S rfl
def BM (d:zw X xr a ma):zw X xr (.UnaryOp .Not a pos) (yv ma):=by
 try simp only[zY]at*
 exact PE.imp (cY d) λσ H Q ⟨φ,A,ρ,S,re,h⟩=>by
   refine tM.go S re (z0.mp h) λw A1 c H1 v b l s q=>?_;cases w with
   |bl k=>exact⟨k,q,b c H1 _ l s rfl⟩|non=>cases b|int _=>cases b|str _=>cases b|tup _=>cases b|ref _=>cases b|clo _ _ _=>cases b|xc _=>cases b
def ZF {op}(h:zw X xr a ma):zw X xr (.BoolOp op [a] pos) ma:=by
 try simp only[zY]at*
 exact cV h
def Fw (ho:zw X xr a ma)(he:zw X xr b mb)(hf:zw X xr c mc)(m:starEach [b,c] X.env=(false,eval b X.env)::starEach [c] X.env:=by rfl)(N:starEach [c] X.env=(false,eval c X.env)::starEach [] X.env:=by rfl)
  (j:attributeBase a "setdefault" X.env (eval a X.env)=eval a X.env:=by rfl)
  (r:((backTo cpos (starEach [b,c] X.env)).all (λx=>!x.1)&&(backToKw cpos (keywordEach [] X.env)).all (λx=>x.1.isSome)
   && decide ([b,c].length+([]:cn).length+(if ([]:cn).isEmpty then 0 else 1)<30))=true:=by rfl)(g:(apos.endLine==cpos.line)=true:=by rfl)(M:(backTo cpos (starEach [c] X.env)).any (·.1)=false:=by rfl):
  zw X xr (.Call (.Attribute a "setdefault" apos) [b,c] [] cpos) (J8 ZE ma mb mc):=by
 try simp only[zY]at*
 exact PE.imp (Ma PySem.F.plainAttrs_dict PySem.F.slot_dict_setdefault PySem.F.type_dict_setdefault EJ ho (jq he (jq hf jP N) m) j r g m M) λσ H Q ⟨φ,A,ρ,S,re,h⟩=>by
   refine tM.go S re (z0.mp h) λw A1 φ1 H1 v m D S1 q1=>?_
   by_cases hd:GI w A1=true
   ·rw[ah hd]at m
    refine⟨Cz S1 q1 hd,?_⟩;refine tM.go S1 (re.mono D) (qt (z0.mp m) (λ_ _ z=>z) λ_ _ z=>z.mono D) λt A2 φ2 H2 v2 N l2 S2 q2=>?_;have l:=D.trans l2;refine tM.go S2 (re.mono l) (qt (z0.mp N) (λ_ _ z=>z) λ_ _ z=>z.mono l) λw3 A3 f T q d l3 P Z=>?_;have L:=l.trans l3;unfold ZE at d;cases w with
    |ref n=>cases t with
     |int i=>
      obtain rfl:=q2;dsimp only[QB]at d;cases s:A3[n]? with
      |none=>rw[s]at d;exact d.elim|some o=>cases o with
       |dct kvs=>
        rw[s]at d;dsimp only at d;obtain⟨p,us,rfl,f1,g1,g2,g3⟩:=P.dct ((q1.mono l2).mono l3) s;have hlen:us.length=kvs.length:=by have:=congrArg List.length g2;simpa using this
        by_cases I:kvs.length<zQ
        ·rw[ah I]at d
         have C:=X3 (.inl i) g2 g3;refine⟨p,us,.inl i,q,rfl,rfl,g1,?_,λv' J=>?_,λhn=>?_⟩
         ·rw[hlen]
          have:sizeLine=16777216:=sizeLine_eq
          unfold zQ at I;omega
         ·cases E:yi (.inl i) kvs with
          |none=>rw[C.2 E]at J;cases J|some y=>
           rw[E]at d;obtain⟨B,e,Y⟩:=C.1 y E;rw[J]at e;cases e;exact d f T _ L P Y
         ·cases E:yi (.inl i) kvs with
          |some y=>obtain⟨B,e,Y⟩:=C.1 y E;rw[hn]at e;cases e|none=>
           rw[E]at d;dsimp only at d;rw[Dt q hn];have ln:Le X.K f T f (upd T p (.dK (us++[(.inl i,q)]))):=Le.upd f1 (λxs z=>by rw[g1]at z;cases z) (λ_ _ z=>by rw[g1]at z;cases z)
           obtain⟨U,t⟩:=P.write (o:=.dct kvs) (o':=.dct (kvs++[(.inl i,w3)])) s rfl rfl f1 (u:=.dK (us++[(.inl i,q)])) ⟨us++[(.inl i,q)],jO,by simp[g2],by
            rw[aQ,aQ];exact(g3.mono ln).append (.one (Z.mono ln))⟩
           exact d _ _ _ (L.trans U) t (Z.mono U)
        ·rw[aj I]at d;exact d.elim
       |_=>rw[s]at d;exact d.elim
     |_=>exact d.elim
    |_=>exact d.elim
   ·rw[aj hd]at m;exact m.elim
def Qh (H:zw X xr a ma)(h:zw X xr b mb):zw X xr (.BinOp a .Sub b pos) (zi gg ma mb):=by
 try simp only[zY]at*
 exact Q6 dy Qq (Ql λ_ _ _ _=>rfl) H h
def OI {q:jU}(H:X.calm=true)(hm:X.mg "sum"=none)(a:wJ X xr e q)(h:Gl X "sum":=by rfl)(he:starEach [e] X.env=(false,eval e X.env)::starEach [] X.env:=by rfl):
  zw X xr (.Call (.Name "sum" p) [e] [] pos) (mQ w9 q):=by
 try simp only[zY]at*
 exact Ge (F9 H) eW AV hm (by rfl) a h (by decide) (by decide) he (by rfl)
def j8 {x1}{m:Ea}(h:gX X xr es m)(d:Yj m n)(hn:n<=zQ:=by decide):zw X xr (.Tuple es x1 pos) (qM m):=by
 try simp only[zY]at*
 exact PE.imp (dJ h) λσ H Q ⟨φ,A,ρ,S,re,h⟩=>by
   have h':=z0.mp h;cases e:m ρ A with
   |ok ws a=>
    rw[e]at h';refine⟨φ,A,ρ,S,re,?_⟩;rw[e];intro b H1 vs l s q;refine⟨by rw[<- q.length,d ρ A ws a e];exact gA hn,λp c=>?_⟩
    obtain⟨a1,a2,f⟩:=Ze s c q;exact h' _ _ _ (l.trans a1) a2 f
   |exc x a=>rw[e]at h';refine⟨φ,A,ρ,S,re,?_⟩;rw[e];exact h'|bad=>rw[e]at h';exact h'.elim
def gB {q:jU}(hm:X.mg "tuple"=none)(H:wJ X xr e q)(h:Gl X "tuple":=by rfl)(he:starEach [e] X.env=(false,eval e X.env)::starEach [] X.env:=by rfl):
  zw X xr (.Call (.Name "tuple" p) [e] [] pos) (mQ jK q):=by
 try simp only[zY]at*
 exact eN Ha (λ_ _=>jy) BS hm (by rfl) H h (by decide) (by decide) he (by rfl)
def zc (i:Nat)(b:X.N[i]? =some x:=by rfl)(a:Gz X.env.scope x:=by first|exact Or.inl rfl|exact Or.inr (Or.inl rfl)|exact Or.inr (Or.inr rfl))(hd:(x==("__debug__":Str))=false:=by decide)
  (d:(x==("__classdict__":Str))=false:=by decide):zw X xr (.Name x pos) (qE i):=by
 try simp only[zY]at*
 exact PE.imp (cJ b a hd d) λσ H Q ⟨φ,A,ρ,S,r,h⟩=>by
  unfold qE at h;cases e:ρ[i]? with
  |none=>rw[e]at h;cases h|some o=>cases o with
   |none=>rw[e]at h;cases h|some w=>
    rw[e]at h;obtain⟨v,f,c⟩:=r.get i w e;exact⟨v,f,h φ H v .refl S c⟩
def DU {iter:Expr}{mi:Ei}{tw:Tg}{m:Ev}{em:Em}(nl:Nat)(cap:b7)(c:X.calm=true)(S:Za X sc)(p:Qr X.N N sc nl cap=true)(hw:ki X xr tg iter mi)
  (n:∀s H fp,wq (jR X N sc s H fp yC) tg tw/\gK (jR X N sc s H fp yC) ifs m/\gn (jR X N sc s H fp yC) elt (⟨tg,iter,ifs,0⟩::gs) sc pos 0 em)
  (b:∀g',gs[0]? =some g'->g'.is_async=0:=by intro _ h;cases h<;>rfl)
  (a:∀x,foldedSetIterable iter X.env x=pure x:=by intro _;rfl):Z0 X xr (.ListComp elt (⟨tg,iter,ifs,0⟩::gs) sc pos) (zH nl cap mi tw m em):=by
 try simp only[zY]at*
 exact PE.imp (B6 (g:=tG X.K tw) (ti:=tT X.K wt m) (tm:=tE X.K em) c S p b hw n a) zH.read
def yX (i j:Nat){y:Str}{q:Pos}{k:Nat}(n:X.calm=true)(h:X.N.Nodup)(l:X.N[i]? =some x:=by rfl)(f:Loc X.env.scope x:=by first|exact Or.inl rfl|exact Or.inr rfl)(hf:X.fn x=true∨X.env.scope.names.lookup x=some .local:=by first|exact .inl rfl|exact .inr rfl)
  (g:X.N[j]? =some y:=by rfl)(d:Loc X.env.scope y:=by first|exact Or.inl rfl|exact Or.inr rfl)(m:X.fn y=true∨X.env.scope.names.lookup y=some .local:=by first|exact .inl rfl|exact .inr rfl):wq X (.Tuple [.Name x p,.Name y q] k pos) (qP i j):=by
 try simp only[zY]at*
 exact PG.imp (VQ n (JM (JQ h l f hf) (JM (JQ h g d m) Vl))) λv σ H Q ⟨φ,A,ρ,w,b,S,re,c,e,K⟩=>by
   unfold qP at e
   split at e
   ·rename_i x1 Y
    have E:=aC e;subst E;obtain⟨a,vs,rfl,s,rs⟩:=c;obtain⟨v1,u,rfl,r,v2,t,rfl,o,rfl⟩:=rs;exact⟨a,[v1,v2],rfl,s,rfl,v1,[v2],rfl,v2,[],rfl,rfl,K _ ((re.set r).set o)⟩
   ·cases e
def E1 (i j k:Nat){y z:Str}{q r pp:Pos}{o:Nat}(f:X.calm=true)(c:X.N.Nodup)(E:X.N[i]? =some x:=by rfl)(u:Loc X.env.scope x:=by first|exact Or.inl rfl|exact Or.inr rfl)(hf:X.fn x=true∨X.env.scope.names.lookup x=some .local:=by first|exact .inl rfl|exact .inr rfl)
  (D:X.N[j]? =some y:=by rfl)(t:Loc X.env.scope y:=by first|exact Or.inl rfl|exact Or.inr rfl)(J:X.fn y=true∨X.env.scope.names.lookup y=some .local:=by first|exact .inl rfl|exact .inr rfl)
  (C:X.N[k]? =some z:=by rfl)(s:Loc X.env.scope z:=by first|exact Or.inl rfl|exact Or.inr rfl)(I:X.fn z=true∨X.env.scope.names.lookup z=some .local:=by first|exact .inl rfl|exact .inr rfl):
  wq X (.Tuple [.Name x p,.Tuple [.Name y q,.Name z r] o pp] n pos) (J5 i j k):=by
 try simp only[zY]at*
 exact PG.imp (VQ f (JM (JQ c E u hf) (JM (VQ f (JM (JQ c D t J) (JM (JQ c C s I) Vl))) Vl))) λv σ H Q ⟨φ,A,ρ,w,g,S,re,m,e,K⟩=>by
   unfold J5 at e
   split at e
   ·rename_i x1 Y Z
    have U:=aC e;subst U;obtain⟨a,vs,rfl,B,rs⟩:=m;obtain⟨v1,r1,rfl,T,v2,r2,rfl,P,rfl⟩:=rs;obtain⟨a2,l,rfl,h,b⟩:=P;obtain⟨d,r3,rfl,M,v4,r4,rfl,L,rfl⟩:=b;exact⟨a,[v1,.ref a2],rfl,B,rfl,v1,[.ref a2],rfl,.ref a2,[],rfl,a2,[d,v4],rfl,h,rfl,d,[v4],rfl,v4,[],rfl,rfl,rfl,K _ (((re.set T).set M).set L)⟩
   ·cases e
def qj (i:Nat)(c:X.N.Nodup)(b:X.N[i]? =some x:=by rfl)(h:Loc X.env.scope x:=by first|exact Or.inl rfl|exact Or.inr rfl)(hf:X.fn x=true∨X.env.scope.names.lookup x=some .local:=by first|exact .inl rfl|exact .inr rfl):wq X (.Name x pos) (zD i):=by
 try simp only[zY]at*
 exact PG.imp (JQ c b h hf) λv σ H Q ⟨φ,A,ρ,w,a,S,re,q,e,k⟩=>by
   have E:ρ.set i (some w)=a:=aC e;subst E;exact k _ (re.set q)
def jb (h:zw X xr e m):ki X xr tg e (zN m):=by
 try simp only[zY]at*
 exact PI.imp (eG h) λσ H Rr ⟨φ,A,ρ,S,re,h⟩=>by
  refine tM.go S re (z0.mp h) λw A1 g H1 v d U Q T=>?_;unfold Gk at d;cases e:zW w A1 with
  |none=>rw[e]at d;exact d.elim|some ws=>
   rw[e]at d;dsimp only at d;cases w with
   |tup us=>
    obtain⟨a,Y,rfl,j,t⟩:=T;refine⟨a,rfl,.inr ⟨⟨Y,j⟩,d g H1 _ U Q λi c l f lw s=>⟨λD b=>?_,λb=>?_⟩⟩⟩
    ·have E:us[i]? =some D:=aC b
     obtain⟨y,p,J⟩:=(t.monoW lw).get E;refine⟨⟨Y,y,lw.tp _ _ j,p⟩,λx H3 C=>?_⟩;obtain⟨P,N⟩:=C;subst P;have q:=N Y (lw.tp _ _ j);rw[p]at q;cases q;exact⟨.refl,s,J⟩
    ·have E:us[i]? =none:=aC b
     refine⟨Y,lw.tp _ _ j,?_⟩;rw[<- t.length];exact List.getElem?_eq_none_iff.mp E
   |ref n=>
    obtain⟨a,rfl,j⟩:=T;have read:∀{c l f us},Z4 X.K g H1 c l->zL X.K c f l->zW (.ref n) f=some us->∃Y,qC X.K l a Y/\zu X.K c l us Y:=λ {c l f us} lw s es=>by
     obtain⟨a',Y,Z,z,r⟩:=Wg (w:=.ref n) (v:=.ref a) s ⟨a,rfl,lw.ex _ _ j⟩ es;cases Z;unfold zW at es;dsimp only at es;cases M:f[n]? with
     |none=>rw[M]at es;cases es|some o=>
      rw[M]at es;obtain⟨a',t,r⟩:=s.ob n o M;rw[lw.ex _ _ j]at t;cases t;cases o with
      |lst xs=>cases es;obtain⟨Y,d,L⟩:=r;exact⟨Y,qC.of d,L⟩|ro xs=>cases es;obtain⟨Y,d,L⟩:=r;exact⟨Y,d.sq,L⟩|dct xs=>cases es|td _=>cases es|tr _=>cases es|tab _ _=>cases es
    obtain⟨B,I,_⟩:=read ⟨λ_ _ h=>h,λ_ _ h=>h,λ_ _ _ h=>h⟩ Q e;refine⟨a,rfl,.inl ⟨⟨B,I⟩,d g H1 _ U Q λi c l f lw s=>⟨λD b=>?_,λb=>?_⟩⟩⟩
    ·dsimp only at b
     cases es:zW (.ref n) f with
     |none=>rw[es]at b;cases b|some us=>
      rw[es]at b;have E:us[i]? =some D:=aC b;obtain⟨Y,u,r⟩:=read lw s es;obtain⟨y,p,J⟩:=r.get E;refine⟨⟨Y,y,u,p⟩,λx H3 C=>?_⟩;obtain⟨P,N⟩:=C;subst P;have q:=N Y u;rw[p]at q;cases q;exact⟨.refl,s,J⟩
    ·dsimp only at b
     cases es:zW (.ref n) f with
     |none=>rw[es]at b;cases b|some us=>
      rw[es]at b;have E:us[i]? =none:=aC b;obtain⟨Y,u,r⟩:=read lw s es;refine⟨Y,u,?_⟩;rw[<- r.length];exact List.getElem?_eq_none_iff.mp E
   |non=>cases e|bl _=>cases e|clo _ _ _=>cases e|xc _=>cases e|int _=>cases e|str _=>cases e
def ZA (g:Gl X "enumerate")(hm:X.mg "enumerate"=none)(e:zw X xr a ma)(s:starEach [a] X.env=[(false,eval a X.env)]:=by rfl):ki X xr (.Tuple elts kk tpos) (.Call (.Name "enumerate" p) [a] [] pos) (j4 ma):=by
 try simp only[zY]at*
 exact PI.imp (Aj g hm (jq e jP (by rw[s];rfl)) s) λσ H r ⟨φ,A,ρ,S,re,h⟩=>by
   refine tM.go S re (z0.mp h) λw A1 c H1 v b l d q=>?_;cases es:zW w A1 with
   |none=>rw[es]at b;exact b.elim|some ws=>
    rw[es]at b;obtain⟨p,y,rfl,z,Z⟩:=YQ d q es;exact⟨p,Qw w,y,rfl,z,b c H1 _ l d (fh q)⟩
def Ee (m:zw X xr a ma)(d:attributeBase a "items" X.env (eval a X.env)=eval a X.env:=by rfl)(e:(apos.endLine==cpos.line)=true:=by rfl):
  ki X xr (.Tuple elts kk tpos) (.Call (.Attribute a "items" apos) [] [] cpos) (Y7 ma):=by
 try simp only[zY]at*
 exact PI.imp (C6 m d e) λσ H r ⟨φ,A,ρ,S,re,h⟩=>by
   unfold Y7 at h;cases A with
   |cons o A=>exact h.elim|nil=>
    dsimp only at h;have i:φ=[]:=by have:=S.len;simpa using this
    subst i;refine tM.go S re (z0.mp h) λw A1 j H1 v f l s q=>?_
    split at f
    ·rename_i kvs
     by_cases hn:qH (kvs.map (·.2))=true
     ·rw[ah hn]at f
      obtain⟨p,us,rfl,f1,g1,g2,g3⟩:=s.dct q (kvs:=kvs) rfl;have h0:H p=none:=by
       rcases l.nw 0 p f1 with z|z
       ·simp at z
       ·exact z
      refine⟨p,us,rfl,g1,λo=>?_⟩;have tp:∀c vs,qw X.K H1 c vs->qw X.K (upd H1 p (.frz o (.dK us))) c vs:=λc vs t=>WT t (λxs z=>by rw[g1]at z;cases z) (λ_ _ z=>by rw[g1]at z;cases z)
      have le:Le X.K [] H [] (upd H1 p (.frz o (.dK us))):=by
       refine⟨λn c z=>z,λc vs t=>tp c vs (l.tp c vs t),λc u b nn=>?_,λn c z=>.inl z,λc z=>?_,λc u U b=>?_⟩
       ·rw[qx (wO b h0)];exact l.fr c u b nn
       ·by_cases g:c=p
        ·rw[g];exact h0
        ·rw[qx g]at z;exact l.st c z
       ·rw[qx (wO b h0)];exact l.fz c u U b
      exact f [] _ _ le zL.none (ft (o:=o) jO g2 (g3.nrm tp (λc u U b=>by rw[qx (Mr b g1 (by intro z;cases z))];exact b) hn) hn)
     ·rw[aj hn]at f;exact f.elim
    ·exact f.elim
def yz (g:Gl X "range")(hm:X.mg "range"=none)(e:zw X xr a ma)(s:starEach [a] X.env=[(false,eval a X.env)]:=by rfl):ki X xr tg (.Call (.Name "range" p) [a] [] pos) (j9 ma):=by
 try simp only[zY]at*
 exact PI.imp (De g hm (jq e jP (by rw[s];rfl)) s) λσ H r ⟨φ,A,ρ,S,re,h⟩=>by
   refine tM.go S re (z0.mp h) λw A1 c H1 v b l i q=>?_;cases w with
   |int j=>
    obtain rfl:=q;dsimp only at b
    by_cases d:je j=true
    ·rw[ah d]at b
     obtain⟨f,B⟩:=gz d;exact⟨j,rfl,f,B,b c H1 _ l i NJ⟩
    ·rw[aj d]at b;exact b.elim
   |non=>exact b.elim|bl _=>exact b.elim|str _=>exact b.elim|tup _=>exact b.elim|ref _=>exact b.elim|clo _ _ _=>exact b.elim|xc _=>exact b.elim
def Wx (n:Gl X "range")(hm:X.mg "range"=none)(r:zw X xr a ma)(o:zw X xr b mb)(s:starEach [a,b] X.env=[(false,eval a X.env),(false,eval b X.env)]:=by rfl)(d:starEach [b] X.env=[(false,eval b X.env)]:=by rfl):ki X xr tg (.Call (.Name "range" p) [a,b] [] pos) (Qs ma mb):=by
 try simp only[zY]at*
 exact PI.imp (E6 n hm (jq r (jq o jP (by rw[d];rfl)) (by rw[s,d])) s d) λσ H I ⟨φ,A,ρ,S,re,h⟩=>by
   refine tM.go S re (z0.mp h) λw A1 g H1 v t l D Q=>?_;refine tM.go D (re.mono l) (qt (z0.mp t) (λ_ _ z=>z) λ_ _ z=>z.mono l) λm A2 f E v2 c L C q=>?_;cases w with
   |int i=>
    obtain rfl:=Q;cases m with
    |int j=>
     obtain rfl:=q;dsimp only at c
     by_cases e:(je i&&je j)=true
     ·rw[ah e]at c
      rw[ak]at e;obtain⟨y,x⟩:=gz e.1;obtain⟨u,B⟩:=gz e.2;exact⟨i,j,rfl,⟨y,x,u,B⟩,c f E _ (l.trans L) C NJ⟩
     ·rw[aj e]at c;exact c.elim
    |non=>exact c.elim|bl _=>exact c.elim|str _=>exact c.elim|tup _=>exact c.elim|ref _=>exact c.elim|clo _ _ _=>exact c.elim|xc _=>exact c.elim
   |non=>exact c.elim|bl _=>exact c.elim|str _=>exact c.elim|tup _=>exact c.elim|ref _=>exact c.elim|clo _ _ _=>exact c.elim|xc _=>exact c.elim
def O9 (o:Gl X "zip")(hm:X.mg "zip"=none)(t:zw X xr a ma)(r:zw X xr b mb)(g:starEach [a,b] X.env=(false,eval a X.env)::starEach [b] X.env:=by rfl)(e:starEach [b] X.env=(false,eval b X.env)::starEach [] X.env:=by rfl)(n:(backTo pos (starEach [b] X.env)).any (·.1)=false:=by rfl):
  ki X xr (.Tuple elts kk tpos) (.Call (.Name "zip" p) [a,b] [] pos) (QA ma mb):=by
 try simp only[zY]at*
 exact PI.imp (fk o hm (jq t (jq r jP e) g) g n) λσ H E ⟨φ,A,ρ,S,re,h⟩=>by
   refine tM.go S re (z0.mp h) λw A1 i H1 v u l x m=>?_;refine tM.go x (re.mono l) (qt (z0.mp u) (λ_ _ z=>z) λ_ _ z=>z.mono l) λf A2 d B v2 c L s Q=>?_;cases es:zW w A2 with
   |none=>rw[es]at c;exact c.elim|some us=>
    cases es':zW f A2 with
    |none=>rw[es,es']at c;exact c.elim|some vs=>
     rw[es,es']at c;have q:=m.mono L;obtain⟨p,xs,rfl,j,D⟩:=YQ s q es;obtain⟨P,y,rfl,Z,C⟩:=YQ s Q es';exact⟨p,P,Qw w,Qw f,xs,y,rfl,j,Z,c d B _ (l.trans L) s (fm q Q)⟩
def Bz {d:Nat}{me:Ev}(x:∀e s,X.xe e s->False)(he:zw X wt elt me)(m:gens[d+1]? =none):gn X elt gens sc pos d (zF me):=by
 try simp only[zY]at*
 exact wm.imp (C9 x he m) λD σ H Q ⟨φ,A,ρ,acc,y,S,re,o,n,r,h⟩=>by
   refine tM.go S re (Vd (z0.mp h)) λw A1 g H1 v f l p q=>?_;obtain⟨c,n1⟩:=l.off o n
   by_cases z:acc.length<zQ
   ·rw[ah z]at f
    have j:=r.length;refine⟨y,c,?_,?_⟩
    ·rw[<- j]
     have:sizeLine=16777216:=sizeLine_eq
     unfold zQ at z;omega
    ·exact f g _ σ _ (l.toD.trans (yF.upd c)) n1 (p.off c n1) ⟨re.len,λi w e=>let ⟨v,a,b⟩:=re.get i w e;⟨v,a,(b.mono l).monoD (yF.upd c)⟩⟩ jO
      (((r.mono l).monoD (yF.upd c)).append (.one (q.monoD (yF.upd c))))
   ·rw[aj z]at f;exact f.elim
def WG {iter:Expr}{d:Nat}{mi:Ei}{tw:Tg}{m:Ev}{em:Em}(o:∀e s,X.xe e s->False)(w:X.calm=true)(v:gens[d+1]? =some ⟨tg,iter,ifs,0⟩)(y:∀g',gens[d+2]? =some g'->g'.is_async=0)
  (hw:ki X wt tg iter mi)(t:wq X tg tw)(u:gK X ifs m)(hm:gn X elt gens sc pos (d+1) em)(q:∀x,foldedSetIterable iter X.env x=pure x:=by intro _;rfl):gn X elt gens sc pos d (kd mi tw m em):=by
 try simp only[zY]at*
 exact wm.imp (C7 o w v y hw t u hm q) λD σ H Q ⟨φ,A,ρ,acc,Y,S,re,B,n,f,h⟩=>by
   refine⟨φ,A,ρ,S,re,qt (Vd (z0.mp h)) (λj A1 E c H1 J l P i=>?_) λ_ _ z=>z⟩;obtain⟨K,n1⟩:=l.off B n;exact jj.read i P (re.mono l) K n1 (f.mono l) (qt E (λp A2 C a T b zs L N M r I g=>C a T b zs (l.toD.trans L) N M r I g) λ_ _ z=>z)
def yq (h:zw X xr e m):wJ X xr e (qo m):=by
 try simp only[zY]at*
 exact PE.imp h λσ H Q ⟨φ,A,ρ,S,re,h⟩=>by
  refine tM.go S re (z0.mp h) λw A1 c H1 v b l s q=>?_;cases e:zW w A1 with
  |none=>rw[e]at b;exact b.elim|some ws=>
   rw[e]at b;obtain⟨a,y,rfl,d,E⟩:=Wg s q e;exact b c H1 a y l s d E
def yf {q:jU}(h:Z0 X xr e q):wJ X xr e q:=by
 try simp only[zY]at*
 exact PE.imp h λσ H Q ⟨φ,A,ρ,S,re,h⟩=>
  ⟨φ,A,ρ,S,re,qt h (λws A1 c a H1 D y l s h0 b n r=>c a H1 D y l s (.inl (qC.of b)) r) λ_ _ z=>z⟩
def DD {o i:Expr}{mo mi:Ev}(ho:zw X xr o mo)(hi:zw X xr i mi)(he:zw X xr e m)
  (ha:∀c I new,augStore i c I new=(do holding [new,c,I] (setItem c I new);release [new,c,I] [];pure .next):=by intros;rfl):yU X xr (.AugAssign (.Subscript o i tpos) .Add e pos) (Kh mo mi m):=by
 try simp only[zY]at*
 exact PS.imp (Al ho hi CC he dj set_list ha) λD σ H ⟨φ,A,ρ,S,re,h⟩=>by
   refine tM.go S re (z0.mp h) λU A1 N H1 v1 h1 q S1 Q=>?_;refine tM.go S1 (re.mono q) (qt (z0.mp h1) (λ_ _ z=>z) λ_ _ z=>z.mono q) λw A2 M H2 v2 a j B q2=>?_;have l:=q.trans j;cases U with
   |ref n=>cases w with
    |int k=>
     obtain rfl:=q2;dsimp only at a
     by_cases h0:0<=k
     ·rw[ah h0]at a
      cases d:(A2[n]?:Option O) with
      |none=>rw[d]at a;exact a.elim|some ob=>cases ob with
       |lst ws=>
        rw[d]at a;dsimp only at a;obtain⟨p,vs,rfl,f1,g1,Z⟩:=B.lst (Q.mono j) d;cases E:ws[k.toNat]? with
        |none=>rw[E]at a;exact a.elim|some P=>cases P with
         |int x=>
          rw[E]at a;dsimp only at a;obtain⟨v,hv,Y⟩:=Z.get E;obtain rfl:=Y;refine⟨p,vs,k,_,rfl,rfl,h0,g1,hv,?_⟩;refine tM.go B (re.mono l) (qt (z0.mp a) (λ_ _ z=>z) λ_ _ z=>z.mono l) λT J g H3 v3 b t S3 q3=>?_;have L:=l.trans t;cases T with
          |int y=>
           obtain rfl:=q3;dsimp only at b;refine⟨x,y,rfl,rfl,?_⟩;refine Na (K:=X.K) g J H3 (.ref p) (.int k) (.int (x+y)) (.ref n) (.int k) (.int (x+y)) _ S3 ((Q.mono j).mono t) rfl rfl ?_;cases r:wG (.ref n) (.int k) (.int (x+y)) J with
           |ok u C=>
            rw[r]at b;exactλf H4 s S4=>b f H4 σ (L.trans s) S4 (re.mono (L.trans s))
           |exc z C=>exact absurd r (NQ _ _ _ _ z C)|bad=>rw[r]at b;exact b.elim
          |_=>exact b.elim
         |_=>rw[E]at a;exact a.elim
       |_=>rw[d]at a;exact a.elim
     ·rw[aj h0]at a;exact a.elim
    |_=>exact a.elim
   |_=>cases w<;>exact a.elim
def Y0:yU X xr st Yi:=by
 try simp only[zY]at*
 exactλpins s σ H D I ⟨φ,A,ρ,S,re,h⟩=>h.elim
def zr (a:yU X xr st m1)(d:wd X xr rest m2):wd X xr (st::rest) (zq m1 m2):=by
 try simp only[zY]at*
 exact yS.imp (Du a d) λD σ H ⟨φ,A,ρ,S,re,h⟩=>by
   refine⟨φ,A,ρ,S,re,qt (z0.mp h) (λf A1 a=>?_) λ_ _ z=>z⟩;cases f with
   |nx ρ1=>exactλb e c l s r=>⟨b,A1,ρ1,s,r,qt a (λ_ _ z=>z.mono l) λ_ _ z=>z.mono l⟩|rt w=>exact a|bk ρ1=>exact a|ct ρ1=>exact a
def km (he:zw X xr e m)(s:swapsWith e none pos.line X.env=pure false:=by rfl):yU X xr (.Expr e pos) (yj m):=by
 try simp only[zY]at*
 exact PS.imp (Ac he s) λD σ H ⟨φ,A,ρ,S,re,h⟩=>tM.go S re (z0.mp h) λw A1 a H1 v b l c q=>b a H1 σ l c (re.mono l)
def yZ {iter:Expr}{mi:Ei}{tw:Tg}(hp:PassesOwn (model X.prog X.w) X.A X.env X.xe)(hc:X.calm=true)(hi:ki X xr tg iter mi)(hg:wq X tg tw)(hb:wd X xr body m1)
  (hs:∀x,foldedSetIterable iter X.env x=pure x:=by intro _;rfl):yU X xr (.For tg iter body [] pos) (jT mi tw m1):=by
 try simp only[zY]at*
 exact PS.imp (dt hp hc hi hg hb hs) λD σ H ⟨φ,A,ρ,S,re,h⟩=>by
   refine⟨φ,A,ρ,S,re,qt (z0.mp h) (λj A1 h1 g H1 J N S1 jr=>?_) λ_ _ z=>z⟩;refine⟨λi f d C=>Ln X.K xr j (turn tw m1) D g H1 f i d C,
    ⟨j.len,g,A1,ρ,.refl,S1,re.mono N,qt h1 (λ_ _ z=>z.mono N) λ_ _ z=>z.mono N⟩,?_⟩
   rintro i f I U ⟨c,A2,p,t,T,q,b⟩
   obtain⟨j1,j2⟩:=jr i c U A2 ⟨t.ex,t.tp,t.fz⟩ T;cases E:j.at_ A2 i with
   |none=>cases f<;>(unfold ym at b;rw[E]at b;exact b.elim)|some o=>
    cases o with
    |none=>
     left
     refine⟨j2 E,?_⟩;cases f<;>(unfold ym at b;rw[E]at b;exact b c U I .refl T q)
    |some w=>
     right
     obtain⟨go,yl⟩:=j1 w E;cases f with
     |zero=>unfold ym at b;rw[E]at b;exact b.elim|succ f=>
      unfold ym at b;rw[E]at b;refine⟨go,λd C=>Ln X.K xr j (turn tw m1) D g H1 f (i+1) d C,λd C z=>⟨f,bz _,z⟩,λx H3 y=>?_⟩;obtain⟨L,Q,q3⟩:=yl x H3 y;have u:=z0.mp b;unfold turn at u;cases P:tw w p with
      |none=>rw[P]at u;exact u.elim|some n=>
       rw[P]at u;refine⟨c,A2,p,w,n,Q,q.mono L,q3,P,λZ M=>?_⟩;refine⟨c,A2,n,Q,M,qt u (λfl Y B=>?_) λ_ _ z=>z.mono L⟩;cases fl with
       |nx e=>exactλa v m l s r=>⟨a,Y,e,(t.trans L).trans l,s,r,qt B (λ_ _ z=>z.mono (L.trans l)) λ_ _ z=>z.mono (L.trans l)⟩|ct e=>exactλa v m l s r=>⟨a,Y,e,(t.trans L).trans l,s,r,qt B (λ_ _ z=>z.mono (L.trans l)) λ_ _ z=>z.mono (L.trans l)⟩|bk e=>exactλa v m l s r=>B a v m (L.trans l) s r|rt w4=>exactλa v v4 l s q4=>B a v v4 (L.trans l) s q4
def jH {sa s:cq}(e:yE X xr c mc)(g:wd X xr sa m1)(f:wd X xr s m2):yU X xr (.If c sa s pos) (qS mc m1 m2):=by
 try simp only[zY]at*
 exact PS.imp (c9 e g f) λD σ H ⟨φ,A,ρ,S,re,h⟩=>by
   refine tT.go S re (z0.mp h) λw A1 a=>?_;cases w with
   |bl k=>
    refine⟨k,rfl,λb H1 l d=>?_⟩;cases k with
    |true=>rw[ah rfl];exact⟨b,A1,ρ,d,re.mono l,qt a (λ_ _ z=>z.mono l) λ_ _ z=>z.mono l⟩|false=>rw[aj az];exact⟨b,A1,ρ,d,re.mono l,qt a (λ_ _ z=>z.mono l) λ_ _ z=>z.mono l⟩
   |non=>cases a|int _=>cases a|str _=>cases a|tup _=>cases a|ref _=>cases a|clo _ _ _=>cases a|xc _=>cases a
def zE:wd X xr [] zx:=by
 try simp only[zY]at*
 exact yS.imp AY λD σ H ⟨φ,A,ρ,S,re,h⟩=>h φ H σ .refl S re
def qk (he:zw X xr e m):yU X xr (.Return (some e) pos) (qy m):=by
 try simp only[zY]at*
 exact PS.imp (c7 he) λD σ H ⟨φ,A,ρ,S,re,h⟩=>tM.go S re (z0.mp h) λw A1 a H1 v b l s q=>b a H1 v l s q
def qO (i:Nat){pos':Pos}(b:X.N.Nodup)(he:zw X xr e m)(a:X.N[i]? =some x:=by rfl)(h:Loc X.env.scope x:=by first|exact Or.inl rfl|exact Or.inr rfl)(H:swapsWith e (some (.Name x pos')) pos.line X.env=pure false:=by rfl)
  (hf:X.fn x=true∨X.env.scope.names.lookup x=some .local:=by first|exact .inl rfl|exact .inr rfl):yU X xr (.Assign [.Name x pos'] e pos) (qe i m):=by
 try simp only[zY]at*
 exact PS.imp (df b a h he H hf) qe.read
def We (i:Nat){iter:Expr}{mi:Ei}{tw:Tg}{m:Ev}{em:Em}{P a:Pos}(nl:Nat)(cap:b7)(j:X.N.Nodup)
  (e:X.calm=true)(S:Za X sc)(p:Qr X.N N sc nl cap=true)(hw:ki X xr tg iter mi)
  (n:∀s H fp,wq (jR X N sc s H fp yC) tg tw/\gK (jR X N sc s H fp yC) ifs m/\gn (jR X N sc s H fp yC) elt (⟨tg,iter,ifs,0⟩::gs) sc pos 0 em)
  (b:X.N[i]? =some x:=by rfl)(c:X.env.scope.names.lookup x=some .local:=by rfl)
  (w:swapsWith (.ListComp elt (⟨tg,iter,ifs,0⟩::gs) sc pos) (some (.Name x P)) a.line X.env=pure true:=by rfl)
  (f:∀g',gs[0]? =some g'->g'.is_async=0:=by intro _ h;cases h<;>rfl)
  (d:∀x,foldedSetIterable iter X.env x=pure x:=by intro _;rfl):yU X xr (.Assign [.Name x P] (.ListComp elt (⟨tg,iter,ifs,0⟩::gs) sc pos) a) (qe i (qm (zH nl cap mi tw m em))):=by
 try simp only[zY]at*
 exact PS.imp (L2.FV (g:=tG X.K tw) (ti:=tT X.K wt m) (tm:=tE X.K em) j b c w e S p f hw n d) λD σ H h=>zH.read σ H _ (qm.read σ H _ (qe.read D σ H h))
def gD (h:gu X xr e m):yE X xr e m:=by
 try simp only[zY]at*
 exact PW.pt h
def jD {g:W->W->Hx->R W}(h:ky X op g)(c:zw X xr a ma)(H:zw X xr b mb)(e:op≠.In:=by decide)(d:op≠.NotIn:=by decide):yE X xr (.Compare a [op] [b] pos) (zi g ma mb):=by
 try simp only[zY]at*
 exact let ⟨r,a1,a2,A⟩:=h.ex;N6 a1 a2 A c H (h.mks b e d)
def fw {o:CmpOp}{g g':W->W->Hx->R W}(h:ky X op g)(h':ky X o g')(e:zw X xr a ma)(d:zw X xr b mb)(H:zw X xr c mc)(hm:lastMarks [op,o] [b,c]=false:=by with_unfolding_all rfl):
  yE X xr (.Compare a [op,o] [b,c] pos) (y9 g g' ma mb mc):=by
 try simp only[zY]at*
 exact let ⟨r,a1,a2,A⟩:=h.ex;let ⟨j,i,f,B⟩:=h'.ex;DQ a1 a2 A i f B e d H hm
def Zh {g:W->W->Hx->R W}(h:Km X op g)(c:zw X xr a ma)(H:zw X xr b mb)(hm:behindInMarks op b=false:=by rfl):yE X xr (.Compare a [op] [b] pos) (zi g ma mb):=by
 try simp only[zY]at*
 exact let ⟨r,a1,a2,A⟩:=h.ex;N6 a1 a2 A c H hm
def wR (f:yE X xr a ma):yE X xr (.UnaryOp .Not a pos) (yv ma):=by
 try simp only[zY]at*
 exact PT.imp (cR f) λσ H Q ⟨φ,A,ρ,S,re,h⟩=>by
   refine tT.go S re (z0.mp h) λw A1 c=>?_;cases w with
   |bl k=>obtain⟨b,e,q⟩:=c;cases e;exact⟨k,rfl,λd H1 l s=>q d H1 l s⟩|non=>cases c|int _=>cases c|str _=>cases c|tup _=>cases c|ref _=>cases c|clo _ _ _=>cases c|xc _=>cases c
def wu (h:zw X xr e m)(he:∀whole,isTrue e X.env whole=(do let v <- whole;standAt e.pos;holding [v] (truthy v)):=by intro _;rfl):yE X xr e m:=by
 try simp only[zY]at*
 exact PT.imp (cN h he) λσ H Q h=>h.toM
def qD:gK X [] (qi (.bl true)):=by
 try simp only[zY]at*
 exactλpins s σ H Q I ⟨φ,A,ρ,S,re,h⟩=>Cw pins s σ H Q I (by
  obtain⟨b,e,q⟩:=h;cases e;exact q φ H .refl S)
def g8 (h:yE X wt c mc):gK X [c] mc:=by
 try simp only[zY]at*
 exact Dw h
def OV {rest:cc}(g:yE X xr a ma)(f:gu X xr (.BoolOp .And (b::rest) pos) mb):gu X xr (.BoolOp .And (a::b::rest) pos) (yg ma mb):=by
 try simp only[zY]at*
 exact PW.imp (pw_and g f) λσ H Q ⟨φ,A,ρ,S,re,h⟩=>by
   refine tT.go S re (z0.mp h) λw A1 c=>?_;cases w with
   |bl k=>
    refine⟨k,rfl,λd H1 l s=>?_⟩;cases k with
    |true=>rw[ah rfl];exact tT.mono s l re c|false=>rw[aj az];obtain⟨b,e,q⟩:=c;cases e;exact q d H1 l s
   |non=>cases c|int _=>cases c|str _=>cases c|tup _=>cases c|ref _=>cases c|clo _ _ _=>cases c|xc _=>cases c
def PD (h:yE X xr a ma):gu X xr (.BoolOp .And [a] pos) ma:=by
 try simp only[zY]at*
 exact pw_and1 h
def gH {rest:cc}(g:yE X xr a ma)(f:gu X xr (.BoolOp .Or (b::rest) pos) mb):gu X xr (.BoolOp .Or (a::b::rest) pos) (jL ma mb):=by
 try simp only[zY]at*
 exact PW.imp (pw_or g f) λσ H Q ⟨φ,A,ρ,S,re,h⟩=>by
   refine tT.go S re (z0.mp h) λw A1 c=>?_;cases w with
   |bl k=>
    refine⟨k,rfl,λd H1 l s=>?_⟩;cases k with
    |false=>rw[aj az];exact tT.mono s l re c|true=>rw[ah rfl];obtain⟨b,e,q⟩:=c;cases e;exact q d H1 l s
   |non=>cases c|int _=>cases c|str _=>cases c|tup _=>cases c|ref _=>cases c|clo _ _ _=>cases c|xc _=>cases c
def ZH (h:yE X xr a ma):gu X xr (.BoolOp .Or [a] pos) ma:=by
 try simp only[zY]at*
 exact pw_or1 h
def ja {K:Frag}{st:Stmt}{f:Addr}{k:Nat}{m:Ex}(F:Zt K x x st f fd)(hm:mg x=some (.ref f))(S:qL N ps (qu st))
  (i:∀(kV doc pm:Value)(an:cp)(c ct:Value)(us:b4),us.length=ps.length->bindArgs (fnOf x x (JU st) (ZD st) (qu st) .none kV doc pm an c ct) ⟨us,[]⟩=pure (ps.zip us))
  (a:∀(c:Value)(A:Around)(outer:ck)(s:Shared)(H:Hp)(E:XK),jx k (A.deeper (envOfC x (qu st) s.heap.objs.size f c))->wd (Qy gp P w K mg base N x (qu st) f c A outer s H E).nox wt (ZD st) m):
  zK P w K mg base (k+1) x ps.length (qK N.length m):=by
 try simp only[zY]at*
 refine⟨f,fd,ps,?_,hm,F.kp,F.binds i⟩;refine F.ok S (λvs H Q E h=>h.len) λc A outer s H vs Q E g ⟨q,φ,A1,ws,n,r,h⟩=>⟨_,a c A outer s H E g,?_⟩;refine⟨φ,A1,ws.map some++List.replicate (N.length-ws.length) none,n,RE.start r,?_⟩;have h':=z0.mp h;show R.post _ (FB K φ H _) _;cases e:m (ws.map some++List.replicate (N.length-ws.length) none) A1 with
 |ok j A2=>
  rw[e]at h';cases j with
  |rt w=>exact h'|nx ρ=>exactλb p d l o _=>h' b p .non l o rfl|bk ρ=>exact h'.elim|ct ρ=>exact h'.elim
 |exc y A2=>
  rw[e]at h';exact h'.elim
 |bad=>rw[e]at h';exact h'.elim
def fx {K:Frag}{st:Stmt}{f:Addr}{k:Nat}{m:Ex}(F:Zt K x x st f fd)(S:qL N ps (qu st))
  (a:∀(c:Value)(A:Around)(outer:ck)(s:Shared)(H:Hp)(E:XK),jx k (A.deeper (envOfC x (qu st) s.heap.objs.size f c))->wd (Qy gp P w K mg base N x (qu st) f c A outer s H E).nox wt (ZD st) m):
  yR P w K mg base gp (k+1) f fd ps (ZX K ps.length (qK N.length m)):=by
 try simp only[zY]at*
 refine F.ok S (λvs H Q E h=>h.len) λc A outer s H vs Q E g ⟨p,φ,A1,ws,j,r,h⟩=>⟨_,a c A outer s H E g,?_⟩;refine⟨φ,A1,ws.map some++List.replicate (N.length-ws.length) none,j,RE.start r,?_⟩;have h':=z0.mp h;show R.post _ (FB K φ H _) _;cases e:m (ws.map some++List.replicate (N.length-ws.length) none) A1 with
 |ok i A2=>
  rw[e]at h';cases i with
  |rt w=>exact h'|nx ρ=>exactλb o d l n _=>h' b o .non l n rfl|bk ρ=>exact h'.elim|ct ρ=>exact h'.elim
 |exc y A2=>rw[e]at h';exact h'.elim|bad=>rw[e]at h';exact h'.elim
def Vn (hm:X.mg "abs"=none)(a:zw X xr e m)(h:Gl X "abs":=by rfl)(he:starEach [e] X.env=(false,eval e X.env)::starEach [] X.env:=by rfl):zw X xr (.Call (.Name "abs" p) [e] [] pos) (yc Kx m):=by
 try simp only[zY]at*
 exact V5 Ba (λw A=>by unfold Kx;split;exact jy;exact qA) (λφ A H x u Q S q p=>by
   cases u with
   |int i=>obtain rfl:=q;exact⟨i,rfl,p φ H _ .refl S rfl⟩|_=>exact p.elim) hm (by rfl) a h (by decide) (by decide) he (by rfl)
def YB (i:zw X xr a ma)(he:zw X xr b mb)(s:starEach [b] X.env=(false,eval b X.env)::starEach [] X.env:=by rfl)
  (e:attributeBase a "append" X.env (eval a X.env)=eval a X.env:=by rfl)
  (w:((backTo cpos (starEach [b] X.env)).all (λx=>!x.1)&&(backToKw cpos (keywordEach [] X.env)).all (λx=>x.1.isSome)
   && decide ([b].length+([]:cn).length+(if ([]:cn).isEmpty then 0 else 1)<30))=true:=by rfl)(h:(apos.endLine==cpos.line)=true:=by rfl):
  zw X xr (.Call (.Attribute a "append" apos) [b] [] cpos) (yK kI ma mb):=by
 try simp only[zY]at*
 exact Ug PySem.F.slot_list_append PySem.F.type_list_append R6 Eu (λφ A H x y u v Q S g q p=>by
   unfold kI at p;cases u with
   |ref n=>
    dsimp only at p;cases E:A[n]? with
    |none=>rw[E]at p;exact p.elim|some o=>cases o with
     |lst ws=>
      rw[E]at p;dsimp only at p
      by_cases c:ws.length<zQ
      ·rw[ah c]at p
       obtain⟨l,vs,rfl,f1,g1,r⟩:=S.lst g E;refine⟨l,vs,y,rfl,rfl,g1,?_,?_⟩
       ·rw[<- r.length]
        have:sizeLine=16777216:=sizeLine_eq
        unfold zQ at c;omega
       ·have ln:Le X.K φ H φ (upd H l (.lst (vs++[y]))):=Le.upd f1 (λxs z=>by rw[g1]at z;cases z) (λ_ _ z=>by rw[g1]at z;cases z)
        obtain⟨f,d⟩:=S.write (o:=.lst ws) (o':=.lst (ws++[v])) E rfl rfl f1 ⟨_,jO,(r.mono ln).append (.one (q.mono ln))⟩;exact p _ _ _ f d rfl
      ·rw[aj c]at p;exact p.elim
     |_=>rw[E]at p;exact p.elim
   |_=>exact p.elim) i he s e w h
def YG (hm:X.mg "int"=none)(a:zw X xr e m)(h:Gl X "int":=by rfl)(he:starEach [e] X.env=(false,eval e X.env)::starEach [] X.env:=by rfl):zw X xr (.Call (.Name "int" p) [e] [] pos) (yc Jj m):=by
 try simp only[zY]at*
 exact A9 EA (λw A=>by unfold Jj;split;exact jy;exact jy;exact qA) (λφ A H x u Q S q p=>by
   cases u with
   |int i=>obtain rfl:=q;exact .inl ⟨i,rfl,p φ H _ .refl S rfl⟩|bl k=>obtain rfl:=q;exact .inr ⟨k,rfl,p φ H _ .refl S rfl⟩|_=>exact p.elim) hm (by rfl) a h (by decide) (by decide) he (by rfl)
def D1 (e:X.calm=true)(hm:X.mg "max"=none)(n:zw X xr a ma)(m:zw X xr b mb)(l:Gl X "max":=by rfl)(r:starEach [a,b] X.env=(false,eval a X.env)::starEach [b] X.env:=by rfl)(o:starEach [b] X.env=(false,eval b X.env)::starEach [] X.env:=by rfl)(h:(backTo pos (starEach [b] X.env)).any (·.1)=false:=by rfl):
  zw X xr (.Call (.Name "max" p) [a,b] [] pos) (zi V6 ma mb):=by
 try simp only[zY]at*
 exact V9 (EN e) Qq (λφ A H x y u v Q S d c p=>by
   obtain⟨i,j,s,E,q⟩:=Ql (K:=X.K) (f:=λi j=>.int (if j > i then j else i)) (g:=λi j=>.int (if j > i then j else i)) (λ_ _ _ _=>rfl) φ A H x y u v Q S d c p;subst s;subst E;exact⟨i,j,rfl,q⟩) hm (by rfl) n m l (by decide) (by decide) r o h
def fy {rest:cc}(f:zw X xr a ma)(e:zw X xr (.BoolOp .Or (b::rest) pos) mb):zw X xr (.BoolOp .Or (a::b::rest) pos) (jL ma mb):=by
 try simp only[zY]at*
 exact PE.imp (cX f e) λσ H Q ⟨φ,A,ρ,S,re,h⟩=>by
   refine tM.go S re (z0.mp h) λw A1 d H1 v c l s q=>?_;cases w with
   |bl k=>
    refine⟨k,q,?_⟩;cases k with
    |false=>rw[aj az];exact⟨d,A1,ρ,s,re.mono l,qt c (λ_ _ z=>z.mono l) λ_ _ z=>z.mono l⟩|true=>rw[ah rfl];exact c d H1 _ l s rfl
   |non=>cases c|int _=>cases c|str _=>cases c|tup _=>cases c|ref _=>cases c|clo _ _ _=>cases c|xc _=>cases c
def EL (B:zw X xr a ma)(he:zw X xr b mb)(t:starEach [b] X.env=(false,eval b X.env)::starEach [] X.env:=by rfl)
  (e:attributeBase a "pop" X.env (eval a X.env)=eval a X.env:=by rfl)
  (c:((backTo cpos (starEach [b] X.env)).all (λx=>!x.1)&&(backToKw cpos (keywordEach [] X.env)).all (λx=>x.1.isSome)
   && decide ([b].length+([]:cn).length+(if ([]:cn).isEmpty then 0 else 1)<30))=true:=by rfl)(h:(apos.endLine==cpos.line)=true:=by rfl):
  zw X xr (.Call (.Attribute a "pop" apos) [b] [] cpos) (yK Zd ma mb):=by
 try simp only[zY]at*
 exact Ug PySem.F.slot_list_pop PySem.F.type_list_pop DZ Ca (λφ A H x y u v Q S s q p=>by
   unfold Zd at p;cases u with
   |ref n=>cases v with
    |int i=>
     obtain rfl:=q;dsimp only at p;cases E:A[n]? with
     |none=>rw[E]at p;exact p.elim|some o=>cases o with
      |lst ws=>
       rw[E]at p;dsimp only at p
       by_cases d:je i=true
       ·rw[ah d]at p
        obtain⟨J,I⟩:=gz d;cases g:seqIndex? i ws.length with
        |none=>rw[g]at p;exact p.elim|some k=>
         rw[g]at p;dsimp only at p;cases f:ws[k]? with
         |none=>rw[f]at p;exact p.elim|some w=>
          rw[f]at p;obtain⟨l,vs,rfl,f1,g1,r⟩:=S.lst s E;obtain⟨y,D,C⟩:=r.get f;have ln:Le X.K φ H φ (upd H l (.lst (vs.eraseIdx k))):=Le.upd f1 (λxs z=>by rw[g1]at z;cases z) (λ_ _ z=>by rw[g1]at z;cases z)
          obtain⟨j,m⟩:=S.write (o:=.lst ws) (o':=.lst (ws.eraseIdx k)) E rfl rfl f1 ⟨_,jO,(r.erase k).mono ln⟩;exact⟨l,vs,i,k,y,rfl,rfl,g1,by omega,by omega,by rw[<- r.length];exact g,D,p _ _ _ j m (C.mono j)⟩
       ·rw[aj d]at p;exact p.elim
      |_=>rw[E]at p;exact p.elim
    |_=>exact p.elim
   |_=>cases v<;>exact p.elim) B he t e c h
def OP (H:zw X xr a ma)(h:zw X xr b mb):zw X xr (.BinOp a .Pow b pos) (zi Gu ma mb):=by
 try simp only[zY]at*
 exact Q6 dB Uj (VY AW λ_ _ _ _=>rfl) H h
def OG (H:zw X xr a ma)(h:zw X xr b mb):zw X xr (.BinOp a .BitXor b pos) (zi UI ma mb):=by
 try simp only[zY]at*
 exact Q6 dC Qq (Ql λ_ _ _ _=>rfl) H h
def P2 {q:jU}(hm:X.mg "list"=none)(d:wJ X xr e q)(g:Gl X "list":=by rfl)(he:starEach [e] X.env=(false,eval e X.env)::starEach [] X.env:=by rfl):
  zw X xr (.Call (.Name "list" p) [e] [] pos) (qm q):=by
 try simp only[zY]at*
 exact PE.imp (Qd Hq g hm (by rfl) (jq d jP he) (by decide) (by decide) he (by rfl)) λσ H Q ⟨φ,A,ρ,S,re,h⟩=>by
   refine⟨φ,A,ρ,S,re,qt (z0.mp h) (λws A1 f b H1 a y L s z r=>?_) λ_ _ z=>z⟩;refine⟨a,y,rfl,z,λl c=>?_⟩;obtain⟨a1,a2,i⟩:=gG s c r;exact f _ _ _ (L.trans a1) a2 i
def OT {o i:Expr}{mo mi:Ev}(he:zw X xr e m)(H:zw X xr o mo)(a:zw X xr i mi)
  (h:swapsWithSole [.Subscript o i tpos] e pos.line X.env=pure false:=by rfl)(hw:swappedStores [.Subscript o i tpos] e X.env=pure none:=by rfl)
  (c:(assignEach [.Subscript o i tpos] X.env).map (·.2)=[assign (.Subscript o i tpos) X.env]:=by rfl)
  (b:∀v,assign (.Subscript o i tpos) X.env v=(do
   let ov <- holding [v] (eval o X.env)
   let iv <- holding [v,ov] (eval i X.env)
   standAt tpos
   holding [v,ov,iv] (setItem ov iv v)
   release [v,ov,iv] []):=by intro _;rfl):yU X xr (.Assign [.Subscript o i tpos] e pos) (wV wG m mo mi):=by
 try simp only[zY]at*
 exact PQ set_list NQ Na he H a h hw c b
def EH (f:Nat)(B:PassesOwn (model X.prog X.w) X.A X.env X.xe)(C:yE X xr c mc)(E:wd X xr body m1):yU X xr (.While c body [] pos) (V3 f mc m1):=by
 try simp only[zY]at*
 exact PS.imp (Dy B C E) λD σ H ⟨φ,A,ρ,S,re,h⟩=>by
   refine⟨λf g e=>∃a A2 d,Le X.K φ H a e/\zL X.K a A2 e/\RE X.K a e d g/\(ZU mc m1 f d A2).post (FB X.K a e D) (EB X.K a e xr),⟨f,φ,A,ρ,.refl,S,re,h⟩,?_⟩
   rintro f t T ⟨a,A2,d,v,J,n,u⟩
   cases f with
   |zero=>exact u.elim|succ f=>
    unfold ZU at u;refine tT.go J n (z0.mp u) λw N j=>?_;cases w with
    |bl k=>
     refine⟨k,rfl,λo M l x=>?_⟩;cases k with
     |true=>
      rw[ah rfl];refine⟨λg e=>∃a A2 d,Le X.K φ H a e/\zL X.K a A2 e/\RE X.K a e d g/\(ZU mc m1 f d A2).post (FB X.K a e D) (EB X.K a e xr),λg e z=>⟨f,bz _,z⟩,?_⟩;refine⟨o,N,d,x,n.mono l,qt (z0.mp j) (λI y q=>?_) λ_ _ z=>z.mono l⟩;cases I with
      |nx i=>exactλb p m L s r=>⟨b,y,i,(v.trans l).trans L,s,r,qt q (λ_ _ z=>z.mono (l.trans L)) λ_ _ z=>z.mono (l.trans L)⟩|ct i=>exactλb p m L s r=>⟨b,y,i,(v.trans l).trans L,s,r,qt q (λ_ _ z=>z.mono (l.trans L)) λ_ _ z=>z.mono (l.trans L)⟩|bk i=>exactλb p m L s r=>q b p m (l.trans L) s r|rt P=>exactλb p v4 L s Q=>q b p v4 (l.trans L) s Q
     |false=>
      rw[aj az];exact j o M t l x (n.mono l)
    |non=>cases j|int _=>cases j|str _=>cases j|tup _=>cases j|ref _=>cases j|clo _ _ _=>cases j|xc _=>cases j
end
end Mi
variable {mi:Mi.Ei}{em:Mi.Em}{ρ:Mi.En}{m me:Mi.Ev}{A A1:Mi.Hx}{ws:List Mi.W}{I:Nat->Mi.En->List Mi.W->Mi.Hx->Prop}{o:Mi.O}{tw:Mi.Tg}{g:Mi.W->Mi.W->Mi.Hx->Mi.R Mi.W}{xr:Mi.XR}{q:Mi.jU}{j:Mi.jv}
set_option maxHeartbeats 4000000
namespace Mi
open PySem L2
section
variable {ρ1:En}{A2:Hx}{w x y:W}{ma mb mc:Ev}{m1 m2:Ex}{f:Fn}
def zm (h:ρ[i]? =some (some w)):qE i ρ A=.ok w A:=by unfold qE;rw[h]
def qW:qi w ρ A=.ok w A:=rfl
def zS (H:ma ρ A=.ok x A1)(h:mb ρ A1=.ok y A2):zi g ma mb ρ A=g x y A2:=by unfold zi;rw[H,zJ,h,zJ]
def NZ {g:W->Hx->R W}(h:ma ρ A=.ok x A1):yc g ma ρ A=g x A1:=by unfold yc;rw[h,zJ]
def wQ {k:Bool}(h:ma ρ A=.ok (.bl k) A1):yv ma ρ A=.ok (.bl (!k)) A1:=by unfold yv;rw[h,zJ]
def gI (h:ma ρ A=.ok (.bl true) A1):yg ma mb ρ A=mb ρ A1:=by unfold yg;rw[h,zJ]
def NA (h:ma ρ A=.ok (.bl false) A1):yg ma mb ρ A=.ok (.bl false) A1:=by unfold yg;rw[h,zJ]
def fA (h:ma ρ A=.ok (.bl true) A1):jL ma mb ρ A=.ok (.bl true) A1:=by unfold jL;rw[h,zJ]
def w5 (h:ma ρ A=.ok (.bl false) A1):jL ma mb ρ A=mb ρ A1:=by unfold jL;rw[h,zJ]
def qa {a:Ea}(h:a ρ A=.ok ws A1):zC f a ρ A=f ws A1:=by unfold zC;rw[h,zJ]
def zV:zo ρ A=.ok [] A:=rfl
def zG {r:Ea}(H:ma ρ A=.ok x A1)(h:r ρ A1=.ok ws A2):zh ma r ρ A=.ok (x::ws) A2:=by unfold zh;rw[H,zJ,h,zJ]
def g9 {a:Ea}(h:a ρ A=.ok ws A1):qM a ρ A=.ok (.tup ws) A1:=by unfold qM;rw[h,zJ]
def kq {a:Ea}(h:a ρ A=.ok ws A1):qF a ρ A=.ok (.ref A1.length) (A1++[.lst ws]):=by unfold qF;rw[h,zJ]
def zP (h:m1 ρ A=.ok (.nx ρ1) A1):zq m1 m2 ρ A=m2 ρ1 A1:=by unfold zq;rw[h,zJ]
def qN (h:m1 ρ A=.ok (.rt w) A1):zq m1 m2 ρ A=.ok (.rt w) A1:=by unfold zq;rw[h,zJ]
def jo:zx ρ A=.ok (.nx ρ) A:=rfl
def qV (h:m ρ A=.ok w A1):qe i m ρ A=.ok (.nx (ρ.set i (some w))) A1:=by unfold qe;rw[h,zJ]
def wy (h:m ρ A=.ok w A1):yj m ρ A=.ok (.nx ρ) A1:=by unfold yj;rw[h,zJ]
def jh (h:m ρ A=.ok w A1):qy m ρ A=.ok (.rt w) A1:=by unfold qy;rw[h,zJ]
def Jd (h:mc ρ A=.ok (.bl true) A1):qS mc m1 m2 ρ A=m1 ρ A1:=by unfold qS;rw[h,zJ]
def ye (h:mc ρ A=.ok (.bl false) A1):qS mc m1 m2 ρ A=m2 ρ A1:=by unfold qS;rw[h,zJ]
def kU (h:mi ρ A=.ok j A1):jT mi tw m1 ρ A=ym j (turn tw m1) j.len 0 ρ A1:=by unfold jT;rw[h,zJ]
def kX (h:tw w ρ=some ρ1):turn tw m1 w ρ A=m1 ρ1 A:=by unfold turn;rw[h]
def XS {st:W->Ex}(h:j.at_ A i=some none):ym j st n i ρ A=.ok (.nx ρ) A:=by
 cases n with
 |zero=>unfold ym;rw[h]|succ n=>unfold ym;rw[h]
def Ws {st:W->Ex}(h:j.at_ A i=some (some w))(H:st w ρ A=.ok (.nx ρ1) A1):ym j st (n+1) i ρ A=ym j st n (i+1) ρ1 A1:=by
 rw[ym,h];dsimp only;rw[H,zJ]
def YO {k:Int}(h:m ρ A=.ok (.int k) A1)(H:je k=true):j9 m ρ A=.ok (wB 0 k.toNat) A1:=by unfold j9;rw[h,zJ];dsimp only;rw[ah H]
def Qm {lo:Int}{k:Nat}(h:i<k):(wB lo k).at_ A i=some (some (.int (lo+i))):=by unfold wB;dsimp only;rw[ah h]
def Qg {lo:Int}{k:Nat}(h:¬i<k):(wB lo k).at_ A i=some none:=by unfold wB;dsimp only;rw[aj h]
def qX (h:m1 (ws.map some++List.replicate (n-ws.length) none) A=.ok (.rt w) A1):qK n m1 ws A=.ok w A1:=by unfold qK;rw[h];rfl
def Vs (h:m1 (ws.map some++List.replicate (n-ws.length) none) A=.ok (.nx ρ) A1):qK n m1 ws A=.ok .non A1:=by unfold qK;rw[h];rfl
def Zc {w:W}(hn:qH ws=true)(hw:w.nr=true)(h:f ws []=.ok w A1):iso f ws A=.ok w A:=by
 unfold iso;rw[ah hn,h];cases w with
 |ref k=>cases hw|_=>dsimp only;rw[ah hw]
end
end Mi
set_option maxHeartbeats 4000000
namespace Mi
open PySem L2
def D4 {ifs:Ev}{c:En}{N:Nat}{item g:Nat->W}{keep:Nat->Bool}(t:∀i,i<N->j.at_ A i=some (some (item i)))(d:j.at_ A N=some none)
  (b:∀i,i<N->ifs (some (item i)::c) A=.ok (.bl (keep i)) A)(he:∀i,i<N->keep i=true->me (some (item i)::c) A=.ok (g i) A):
  ∀(n i:Nat)(x:Option W)(acc:List W),i+n=N->acc.length+n<=zQ->∃y,jj j (zD 0) ifs (zF me) n i (x::c) acc A=.ok (y::c,acc++((List.range' i n).filter keep).map g) A:=by
 intro n
 induction n with
 |zero=>
  intro i x acc h _
  have:i=N:=by omega
  subst this;refine⟨x,?_⟩;unfold jj;rw[d];simp
 |succ n I=>
  intro i x acc h l;have H:i<N:=by omega
  rw[jj,t i H];dsimp only[zD,List.set];rw[b i H,zJ];rw[bK];cases a:keep i with
  |true=>
   dsimp only;obtain⟨y,e⟩:=I (i+1) (some (item i)) (acc++[g i]) (by omega) (by rw[aB,bj];omega)
   refine⟨y,?_⟩;have E:zF me (some (item i)::c) acc A=.ok (some (item i)::c,acc++[g i]) A:=by
    unfold zF;rw[he i H a,zJ,ah (by omega)]
   rw[E,zJ];dsimp only;rw[e,a9 a,aF,aU]
   rfl
  |false=>
   dsimp only;obtain⟨y,e⟩:=I (i+1) (some (item i)) acc (by omega) (by omega)
   exact⟨y,by rw[e,bF (by rw[a];exact az)]⟩
def QR {ifs:Ev}{N:Nat}{item g:Nat->W}{keep:Nat->Bool}(hm:mi ρ A=.ok j A)(a:j.len=N)(d:N<=zQ)
  (H:∀i,i<N->j.at_ A i=some (some (item i)))(h:j.at_ A N=some none)(b:∀i,i<N->ifs (some (item i)::cap.map λi=>(ρ[i]?).join) A=.ok (.bl (keep i)) A)
  (he:∀i,i<N->keep i=true->me (some (item i)::cap.map λi=>(ρ[i]?).join) A=.ok (g i) A):
  zH 1 cap mi (zD 0) ifs (zF me) ρ A=.ok (((List.range N).filter keep).map g) A:=by
 obtain⟨y,e⟩:=D4 H h b he N 0 none [] (zero_add N) (by simpa using d)
 unfold zH;rw[hm,zJ,a];have c:Q7 1 cap ρ=none::cap.map λi=>(ρ[i]?).join:=rfl;rw[c,e,bx,<- bC]
 rfl
def wN {N:Nat}{item g:Nat->W}(hm:mi ρ A=.ok j A)(a:j.len=N)(c:N<=zQ)
  (t:∀i,i<N->j.at_ A i=some (some (item i)))(H:j.at_ A N=some none)(he:∀i,i<N->me (some (item i)::cap.map λi=>(ρ[i]?).join) A=.ok (g i) A):
  zH 1 cap mi (zD 0) (qi (.bl true)) (zF me) ρ A=.ok ((List.range N).map g) A:=by
 have h:=QR (ifs:=qi (.bl true)) (keep:=λ_=>true) hm a c t H (λ_ _=>rfl) λi b _=>he i b;have f:(List.range N).filter (λ_=>true)=List.range N:=List.filter_eq_self.mpr λ_ _=>rfl;rw[f]at h;exact h
def j3 {g:List W->Hx->R W}(h:q ρ A=.ok ws A1):mQ g q ρ A=g ws A1:=by unfold mQ;rw[h,zJ]
def yN (h:q ρ A=.ok ws A1):qm q ρ A=.ok (.ref A1.length) (A1++[.lst ws]):=by unfold qm;rw[h,zJ]
def yY {w:W}(h:m ρ A=.ok w A1)(H:zW w A1=some ws):qo m ρ A=.ok ws A1:=by unfold qo;rw[h,zJ,H]
open PySem PySem.Spec PyProof.Rows L2
noncomputable def mJ:List Ev->Str->Ev
 |[],acc=>λ_ A=>.ok (.str acc) A|m::ms,acc=>λρ A=>(m ρ A).bind λw A1=>match w with
  |.str y=>if (acc++y).length<=sizeLine then mJ ms (acc++y) ρ A1 else .bad|_=>.bad
section
variable {es:cc}{ms:List Ev}
inductive SJ (X:Cx)(xr:XR):List Expr->List Ev->Prop where
 |nil:SJ X xr [] []
 |cons {e:Expr} {es:cc} {m:Ev} {ms:List Ev} (h:SE X xr e m) (r:SJ X xr es ms):SJ X xr (e::es) (m::ms)
end
open PySem PySem.W PySem.Spec PySem.Calls PyProof.Rows Builtin Builtin.ObjectAttr Builtin.Getset_descriptor
section
noncomputable def Zr (m:Ev)(tw:Tg):Ex:=λρ A=>(m ρ A).bind λw A1=>match tw w ρ with
 |some a=>.ok (.nx a) A1|none=>.bad
end
section
noncomputable abbrev wD (led:Bool):Obj:={ cls:=.type "set",dict:=none,data:=.set #[] 0 (.fresh 0 0 led) }
end
def intsAre_of:∀{ns:b3}{i:b4},Vals (ns.map V.int) i->IntsAre i ns:=by
 intro ns
 induction ns with
 |nil=>intro i h;cases h;exact .nil|cons n ns I=>
  intro i h;cases h with
  |cons r t=>obtain⟨tk,rfl⟩:=r;exact .cons n tk (I t)
inductive ku (h:Heap):List Value->List (b3)->Prop
 |nil:ku h [] []
 |cons {p:Addr} {its:Array Value} {ns:b3} {vs:b4} {nss:b0} (t:IsTup h p its) (i:IntsAre its.toList ns) (r:ku h vs nss):ku h (.ref p::vs) (ns::nss)
theorem ku.length {n:b0}(t:ku h vs n):vs.length=n.length:=by
 induction t with
 |nil=>rfl|cons _ _ _ i=>rw[aN,aN,i]
def ku.keep {n:b0}(t:ku h vs n)(k:∀p I,IsTup h p I->IsTup h' p I):ku h' vs n:=by
 induction t with
 |nil=>exact .nil|cons t i _ a=>exact .cons (k _ _ t) i a
def Pk:∀{vs:b4}{ns:b3},IntsAre vs ns->ReadsAll h vs (ns.map PyData.int) []:=by
 intro vs ns i
 induction i with
 |nil=>exact .nil|cons n t r I=>exact .cons (.int n t) I
theorem Og:∀(ns ms:b3),PyData.eqvAll (ns.map PyData.int) (ms.map PyData.int)=decide (ns=ms)
 |[],[]=>by simp[PyData.eqvAll]|[],_::_=>by simp[PyData.eqvAll]|_::_,[]=>by simp[PyData.eqvAll]|n::ns,m::ms=>by
  have:=Og ns ms
  simp only[aF,PyData.eqvAll,PyData.eqv,this,List.cons.injEq]
  by_cases h1:n=m<;>by_cases h:ns=ms<;>simp[h1,h]
theorem Vg:∀(ns:b3),PyData.canLayAll0 (ns.map PyData.int)=true
 |[]=>by simp[PyData.canLayAll0]|n::ns=>by simp[PyData.canLayAll0,PyData.canLay0,Vg ns]
theorem XQ:∀(ns:b3),PyData.depthAll (ns.map PyData.int)<=1
 |[]=>by simp[PyData.depthAll]|n::ns=>by
  have:=XQ ns
  simp only[aF,PyData.depthAll,PyData.depth];omega
def EE {A:Around}{p q:Addr}{a I:Array Value}{ms:b3}(t:IsTup s.heap p a)(T:IsTup s.heap q I)(i:IntsAre a.toList ns)(j:IntsAre I.toList ms)(u:A.units+10<cLine):
  SeqAt.EqAt A s (.ref p) (.ref q) (decide (ns=ms)):=by
 obtain⟨o,b,H,k,h⟩:=t;obtain⟨c,g1,g2,K,g3⟩:=T;have e:=SeqAt.eqAt_reads (.tuple (ns.map .int)) (.tuple (ms.map .int)) A s (.ref p) (.ref q) _ _ (.tuple b H h (Pk i)) (.tuple g1 g2 g3 (Pk j)) (by simp[PyData.canLay0,Vg]) (by simp[PyData.canLay0,Vg])
  (by have:=XQ ns;have:=XQ ms;simp only[PyData.depth];omega)
 have ev:PyData.eqv (.tuple (ns.map .int)) (.tuple (ms.map .int))=decide (ns=ms):=by
  simp only[PyData.eqv];exact Og ns ms
 rw[ev]at e;exact e
section
open PySem.SeqAt
open PySem.AutoSeq1 (wpAny_loadPart')
open PySem.MeetsSeq PySem.MeetsSeq2 PySem.MeetsSeq3
end
section
variable {K:Frag}
def PX {w:W}{ds:List PyData}(h:qc A 8 w=some (.list ds)):PyData.canLayAll0 ds=true/\PyData.depthAll ds<=8:=by
 obtain⟨H,a⟩:=Wl 8 w _ h;simp only[PyData.canLay0,PyData.depth]at H a;exact⟨H,by omega⟩
def zdE:W->W->Hx->R W:=λx y A=>match qc A 8 x,qc A 8 y with
 |some d,some (.list ds)=>.ok (.bl (ds.any λz=>PyData.eqv z d)) A|_,_=>.bad
noncomputable def Zl (p:PyData->Bool):List PyData->Option Nat
 |[]=>none|d::ds=>if p d then some 0 else(Zl p ds).map (· + 1)
theorem Oo {p:PyData->Bool}:∀{ds:List PyData}{j:Nat},Zl p ds=some j->∃h:j<ds.length,p ds[j]=true/\∀m (hm:m<ds.length),m<j->p ds[m]=false
 |[],_,e=>by cases e|d::ds,j,e=>by
  unfold Zl at e
  by_cases hd:p d=true
  ·rw[ah hd]at e
   cases e;exact⟨zero_lt_succ _,hd,λm _ z=>absurd z (not_lt_zero _)⟩
  ·rw[aj hd]at e
   cases E:Zl p ds with
   |none=>rw[E]at e;cases e|some J=>
    rw[E]at e;cases e;obtain⟨b,a,H⟩:=Oo E;refine⟨Nat.succ_lt_succ b,a,λm hm z=>?_⟩;cases m with
    |zero=>exact Bool.eq_false_iff.mpr hd|succ m=>exact H m (Nat.lt_of_succ_lt_succ hm) (Nat.lt_of_succ_lt_succ z)
def Bs (K:Frag):V->List V->Hp->VK->Prop:=λx vs H Q=>∃φ A u v y d ds j,vs=[y]/\zL K φ A H/\RV K φ H u x/\RV K φ H v y/\qc A 8 u=some (.list ds)/\qc A 8 v=some d/\Zl (λz=>PyData.eqv z d) ds=some j/\j<1000000/\Q (.int j) H
def E7 (P:X.A.units+64<cLine):US X "list.index" (Bs X.K):=by
 intro pins s σ H x vs v us Q I r i h;obtain⟨φ,A,f,w,y,d,ds,j,rfl,S,B,t,a,E,L,T,q⟩:=h;obtain⟨u,rfl,p⟩:=i.one;obtain⟨as,D⟩:=Qe I S 8 f x v _ B r a;obtain⟨bs,C⟩:=Qe I S 8 w y u d t p E;obtain⟨g1,g2⟩:=Wl 8 w d E;obtain⟨g3,U⟩:=PX a;obtain⟨f1,f2,J⟩:=Oo L;cases D with
 |list a1 a2 c b=>
  rename_i l o items n N
  obtain⟨cls,M,data,g⟩:=o;simp only at a2 c;subst a2 c;have hm:=SeqAt.readsAll_map _ _ _ g3 b;have hlen:items.size=ds.length:=by rw[<- hm];simp
  have at_:∀m (h:m<items.size) (h':m<ds.length),SeqAt.readOf s.heap items[m]=ds[m]:=λm h h'=>by
   have e:(items.toList.map (SeqAt.readOf s.heap))[m]? =ds[m]?:=by rw[hm]
   rw[av,aa h',bS,Array.getElem?_eq_getElem h]at e;exact aC e
  refine call_meets F.slot_list_index ⟨_,a1,rfl⟩ F.entry_list_index (F.args_list_index_2 _ _)
   (SeqAt.list_indexAt l items n M g u (λz=>PyData.eqv (SeqAt.readOf s.heap z) d) j (by omega) (by omega) (by rw[at_ j (by omega) f1];exact f2) (λm h z=>by rw[at_ m h (by omega)];exact J m (by omega) z)) ⟨a1,SeqAt.items_eqAt b C g3 g1 (by omega),?_⟩
  exact⟨.int j,H,I.tok _,⟨_,rfl⟩,q⟩
def Zg:W->W->Hx->R W:=λx y A=>match qc A 8 x,qc A 8 y with
 |some (.list ds),some d=>(match Zl (λz=>PyData.eqv z d) ds with
  |some j=>if j<1000000 then .ok (.int j) A else .bad|none=>.bad)
 |_,_=>.bad
def C5:∀x y A,qJ (Zg x y A):=λx y A=>by
 unfold Zg
 split
 ·split
  ·exact wX jy qA
  ·exact qA
 ·exact qA
end
open PySem
noncomputable def qb (n:Nat):b7:=(List.range 8).filter λi=>n.testBit i
def jc (led:Bool)(n:Nat):SetTable:=if (qb n).length<5 then⟨7,(qb n).toArray,#[],0,led,0,true⟩ else⟨31,(qb n).toArray,#[],0,led,1,true⟩
noncomputable def jt (n v:Nat):Nat:=n ||| (1 <<< v)
def gO (n v:Nat):Nat:=((qb n).filter λi=>decide (i<v)).length
def kE (led:Bool)(n v:Nat):SetTable:={ jc led n with place:=(qb (jt n v)).toArray }
def yB (led:Bool)(n v:Nat):Bool:=n.testBit v || (((jc led n).freeSlot (v:Int)==some (v,false))&&((jc led n).put v==(kE led n v,gO n v))&&(qb (jt n v)==(qb n).take (gO n v)++v::(qb n).drop (gO n v))&&
 (kE led n v).fits (qb (jt n v)).length&&((kE led n v).tooFull==((qb (jt n v)).length==5))&&
 (if (qb (jt n v)).length==5 then(kE led n v).relaid ((qb (jt n v)).map λ(i:Nat)=>(i:Int)).toArray 20==some (jc led (jt n v),#[0,1,2,3,4]) else jc led (jt n v)==kE led n v)&&
 (jc led (jt n v)).fits (qb (jt n v)).length&&decide (jt n v<256))
def add_0:((List.range' 0 32).all λn=>(List.range 8).all λv=>yB true n v&&yB false n v)=true:=by decide +kernel
def fB:((List.range' 32 32).all λn=>(List.range 8).all λv=>yB true n v&&yB false n v)=true:=by decide +kernel
def fC:((List.range' 64 32).all λn=>(List.range 8).all λv=>yB true n v&&yB false n v)=true:=by decide +kernel
def fD:((List.range' 96 32).all λn=>(List.range 8).all λv=>yB true n v&&yB false n v)=true:=by decide +kernel
def fE:((List.range' 128 32).all λn=>(List.range 8).all λv=>yB true n v&&yB false n v)=true:=by decide +kernel
def fF:((List.range' 160 32).all λn=>(List.range 8).all λv=>yB true n v&&yB false n v)=true:=by decide +kernel
def fG:((List.range' 192 32).all λn=>(List.range 8).all λv=>yB true n v&&yB false n v)=true:=by decide +kernel
def fH:((List.range' 224 32).all λn=>(List.range 8).all λv=>yB true n v&&yB false n v)=true:=by decide +kernel
def Aq:((List.range 256).all λn=>(List.range 8).all λv=>yB true n v&&yB false n v)=true:=by
 rw[show List.range 256=List.range' 0 32++(List.range' 32 32++(List.range' 64 32++(List.range' 96 32++(List.range' 128 32++(List.range' 160 32++(List.range' 192 32++List.range' 224 32)))))) by decide +kernel,bV,bV,bV,bV,bV,bV,bV,add_0,fB,fC,fD,fE,fF,fG,fH]
 rfl
open PySem PySem.Spec PyProof.Rows
inductive jn:List (Int×Value)->List Nat->Prop
 |nil:jn [] []
 |cons {es:List (Int×Value)} {vs:b7} (v:Nat) (tk:Tok) (h:jn es vs):jn (((v:Int),.int (v:Int) tk)::es) (v::vs)
theorem jn.length {vs:b7}(h:jn es vs):es.length=vs.length:=by
 induction h with
 |nil=>rfl|cons v tk h i=>simp[i]
def jn.map1 {vs:b7}(h:jn es vs):es.map (·.1)=vs.map λ(i:Nat)=>(i:Int):=by
 induction h with
 |nil=>rfl|cons v tk h I=>simp[I]
theorem jn.take {vs:b7}(h:jn es vs):∀k,jn (es.take k) (vs.take k):=by
 induction h with
 |nil=>intro k;simp;exact .nil|cons v tk h i=>
  intro k;cases k with
  |zero=>exact .nil|succ k=>exact .cons v tk (i k)
theorem jn.drop {vs:b7}(h:jn es vs):∀k,jn (es.drop k) (vs.drop k):=by
 induction h with
 |nil=>intro k;simp;exact .nil|cons v tk h i=>
  intro k;cases k with
  |zero=>exact .cons v tk h|succ k=>exact i k
def jn.app {es':List (Int×Value)}{vs a:b7}(h:jn es vs)(h':jn es' a):jn (es++es') (vs++a):=by
 induction h with
 |nil=>exact h'|cons v tk h i=>exact .cons v tk i
def RS:∀v,v<8->hashInt ((v:Nat):Int)=(v:Int):=by decide
section
variable {prog:Program}
def jn.elems {vs:b7}(h:jn es vs)(H:∀v∈vs,v<8):ElemsOf (intKind prog w) es:=by
 induction h with
 |nil=>intro e he;cases he|cons v tk h i=>
  intro e he;rcases cy.mp he with rfl|he
  ·exact⟨⟨(v:Int),intKind_is _ _ _ _,(RS v (H v (ay ..))).symm⟩,rfl⟩
  ·exact i (λu a=>H u (aw _ a)) e he
def jn.find {vs:b7}(h:jn es vs)(v:Nat):(es.findIdx? λe=>(intKind prog w).is (v:Int) e.2)=vs.findIdx? λu=>decide (u=v):=by
 induction h with
 |nil=>rfl|cons u tk h i=>
  rw[List.findIdx?_cons,List.findIdx?_cons,i]
  have:(intKind prog w).is (v:Int) (Value.int (u:Int) tk)=decide (u=v):=by
   show Value.isInt (v:Int) (Value.int (u:Int) tk)=_;unfold Value.isInt;rw[Bool.eq_iff_iff];simp;omega
  rw[this]
end
def VU {v:Nat}:v∈qb n↔v<8/\n.testBit v=true:=by
 unfold qb;rw[bD,bA]
def yt (h:Heap)(a:Addr)(led:Bool)(n:Nat):Prop:=∃o e E,h.get? a=some o/\o.ExactSet/\o.data=.set e E (jc led n)/\jn e.toList (qb n)/\n<256
def yt.keep (x:yt h a led n)(k:∀o,h.get? a=some o->h'.get? a=some o):yt h' a led n:=
 let ⟨o,es,ep,H,r⟩:=x;⟨o,es,ep,k o H,r⟩
def D0 {v:Nat}(hn:n<256)(H:v<8)(led:Bool):yB led n v=true:=by
 have h:=cB.mp (cB.mp Aq n (cx.mpr hn)) v (cx.mpr H);rw[ak]at h;cases led
 ·exact h.2
 ·exact h.1
def Ds:((List.range 256).all λn=>(jc true n).fits (qb n).length&&(jc false n).fits (qb n).length)=true:=by decide +kernel
def X4 (led:Bool)(n:Nat):(jc led n).plain=true:=by unfold jc;split<;>rfl
def By (led:Bool)(n:Nat):(jc led n).led=led:=by unfold jc;split<;>rfl
def Pf (led:Bool)(n:Nat):(jc led n).place=(qb n).toArray:=by unfold jc;split<;>rfl
def fits_of (hn:n<256)(led:Bool):(jc led n).fits (qb n).length=true:=by
 have h:=cB.mp Ds n (cx.mpr hn);rw[ak]at h;cases led
 ·exact h.2
 ·exact h.1
def J9 (n:Nat):(qb n).length<=8:=by
 unfold qb;exact bw (bo _ _) (by simp)
structure Gn (led:Bool)(n v:Nat):Prop where
 free:(jc led n).freeSlot (v:Int)=some (v,false)
 put:(jc led n).put v=(kE led n v,gO n v)
 vs:qb (jt n v)=(qb n).take (gO n v)++v::(qb n).drop (gO n v)
 fits:(kE led n v).fits (qb (jt n v)).length=true
 full:(kE led n v).tooFull=((qb (jt n v)).length==5)
 UB:(qb (jt n v)).length=5->(kE led n v).relaid ((qb (jt n v)).map λ(i:Nat)=>(i:Int)).toArray 20=some (jc led (jt n v),#[0,1,2,3,4])
 less:(qb (jt n v)).length≠5->jc led (jt n v)=kE led n v
 lt:jt n v<256
def Er {v:Nat}(hn:n<256)(a:v<8)(led:Bool)(b:n.testBit v=false):Gn led n v:=by
 have h:=D0 hn a led;unfold yB at h;rw[b,Bool.false_or]at h;simp only[ak,aV,af]at h;obtain⟨⟨⟨⟨⟨⟨⟨j,i⟩,g⟩,f⟩,d⟩,H⟩,l⟩,c⟩:=h;refine⟨j,i,g,f,d,λe=>?_,λe=>?_,c⟩
 ·rw[ah e]at H;exact of_decide_eq_true (by simpa using H)
 ·rw[aj e]at H;simpa using H
def yr (n v:Nat):Nat:=if n.testBit v then n else jt n v
section
variable {prog:Program}{A:Around}
def CK {e:Array (Int×Value)}{v:Nat}{x:Value}(f:Gn led n v)(he:jn e.toList (qb n)):layNew (jc led n) e (v:Int) x=(SetTable.insertAt e (gO n v) ((v:Int),x),kE led n v,false,false):=by
 have hsz:(SetTable.insertAt e (gO n v) ((v:Int),x)).size=(qb (jt n v)).length:=by
  rw[<- aO,SetTable.toList_insertAt,f.vs,aB,aB,aN,aN,bY,bY,bZ,bZ,he.length]
 unfold layNew;rw[f.free];dsimp only;rw[f.put];dsimp only;rw[hsz];unfold SetTable.orStandIn;rw[ah f.fits,f.fits]
 rfl
def Bl {E:Array (Int×Value)}{v:Nat}(f:Gn led n v)(H:(qb (jt n v)).length=5)(he:jn E.toList (qb (jt n v))):relayAll (kE led n v) E 20=(E,jc led (jt n v),false):=by
 have hm:E.map (·.1)=((qb (jt n v)).map λ(i:Nat)=>(i:Int)).toArray:=by
  apply Array.toList_inj.mp
  rw[Array.toList_map,he.map1]
 have hsz:E.size=5:=by rw[<- aO,he.length,H]
 have h:(#[0,1,2,3,4]:Array Nat).filterMap (E[·]?)=E:=by
  apply Array.toList_inj.mp
  rw[Array.toList_filterMap];have h0:E.toList.length=5:=by rw[aO];exact hsz
  have g:∀i,E[i]? =E.toList[i]?:=λi=>by rw[bS]
  simp only[g];generalize E.toList=l at h0;obtain⟨a,b,c,d,e,rfl⟩:∃a b c d e,l=[a,b,c,d,e]:=by
   match l,h0 with
   |[a,b,c,d,e],_=>exact⟨a,b,c,d,e,rfl⟩
  rfl
 unfold relayAll;rw[hm,f.UB H];dsimp only;rw[h];have j:coversAll #[0,1,2,3,4] E.size=true:=by rw[hsz];decide +kernel
 have hf:(jc led (jt n v)).fits E.size=true:=by rw[hsz,<- H];exact fits_of f.lt led
 rw[j,hf]
 rfl
def jn.insert {e:Array (Int×Value)}{v:Nat}{tk:Tok}(f:Gn led n v)(he:jn e.toList (qb n)):jn (SetTable.insertAt e (gO n v) ((v:Int),.int (v:Int) tk)).toList (qb (jt n v)):=by
 rw[SetTable.toList_insertAt,f.vs];exact(he.take _).app (.cons v tk (he.drop _))
def RB {o:Obj}{E es':Array (Int×Value)}{e:Nat}{t:SetTable}{t':SetTable}(H:h.get? a=some o)(hd:o.data=.set E e t):(h.update a (Obj.putSet es' t')).get? a=some { o with data:=.set es' (e+1) t' }:=by
 have:=bc (Obj.putSet es' t') H (by rw[putSet_of es' t' hd];rfl)
 rw[putSet_of es' t' hd]at this;exact this
def Fy {v:Nat}{tk:Tok}{Q:Bool->Shared->Prop}(T:yt s.heap a led n)(y:v<8)
  (h:∀h' b,Heap.SameBut a s.heap h'->yt h' a led (yr n v)->Q b { s with heap:=h' }):
  wpAny (model prog w) A (setAddHashed a (.int (v:Int) tk) ((intKind prog w).hash (v:Int))) Q E s:=by
 obtain⟨o,m,D,q,hex,hd,he,hn⟩:=T;have hlen:m.size=(qb n).length:=by rw[<- aO,he.length]
 have hf:(jc led n).fits m.size=true:=by rw[hlen];exact fits_of hn led
 have r:ElemsOf (intKind prog w) m.toList:=he.elems λu J=>(VU.mp J).1;have l:m.size<scanBound:=by rw[hlen];have:=J9 n;unfold scanBound;omega
 unfold setAddHashed setAddHashedIn;refine wpAny_holding (cu (wpAny_setState_of q hd hf ?_));dsimp only;rw[byScan_of (x:=.int (v:Int) tk) rfl l r];simp only[↓reduceIte];unfold setAddByScan;refine cu ?_;refine cu (wpAny_rule ?_);refine cu (wpAny_setScan_of (knd:=intKind prog w) (intKind_is _ _ _ _) q hd hf r ?_);rw[he.find];cases I:(qb n).findIdx? λu=>decide (u=v) with
 |some j=>
  dsimp only;have l:n.testBit v=true:=by
   obtain⟨N,B,_⟩:=List.findIdx?_eq_some_iff_getElem.mp I
   have:=of_decide_eq_true B
   exact(VU.mp (this ▸ aS N)).2
  refine cw (cw ?_);have e:s={ s with heap:=s.heap }:=by cases s;rfl
  rw[e];refine h s.heap false (Heap.SameBut.refl a s.heap) ?_;unfold yr;rw[ah l];exact⟨o,m,D,q,hex,hd,he,hn⟩
 |none=>
  dsimp only;have l:n.testBit v=false:=by
   cases M:n.testBit v with
   |false=>rfl|true=>
    have:=List.findIdx?_eq_none_iff.mp I v (VU.mpr ⟨y,M⟩)
    simp at this
  have f:=Er hn y led l;have P:(intKind prog w).hash (v:Int)=(v:Int):=RS v y;rw[P];rw[CK f he];have H:=he.insert (tk:=tk) f;have i:(SetTable.insertAt m (gO n v) ((v:Int),Value.int (v:Int) tk)).size=(qb (jt n v)).length:=by rw[<- aO,H.length]
  generalize SetTable.insertAt m (gO n v) ((v:Int),Value.int (v:Int) tk)=c at H i;dsimp only;refine cu (cw ?_);have L:(kE led n v).plain=true:=by unfold kE;exact X4 led n
  rw[L];simp only[↓reduceIte];refine cu ?_;rw[hashByValue_scannable 8 (x:=.int (v:Int) tk) rfl];refine cw ?_;have z:plainKind (.int (v:Int) tk)=true:=rfl;rw[z];simp only[↓reduceIte];have p:c.size<=sizeLine:=by rw[i,sizeLine_eq];have:=J9 (jt n v);omega
  refine cu (wpAny_storeSet_of q hd ?_ p);have g:=RB (es':=c) (t':=kE led n v) q hd;have d:=Heap.SameBut.update s.heap a (Obj.putSet c (kE led n v));rw[f.full]
  by_cases t:(qb (jt n v)).length=5
  ·have S:SetTable.grown c.size=20:=by rw[i,t];rfl
   rw[S,Bl f t H,t];simp only[Bool.not_false,Bool.true_and,bG,↓reduceIte];refine cu (cw ?_);refine cu (wpAny_storeSet_of g rfl ?_ p);refine cw ?_;dsimp only;refine cw ?_;have C:=RB (es':=c) (t':=jc led (jt n v)) g rfl;refine h _ true (d.trans (Heap.SameBut.update _ a _)) ?_;unfold yr;rw[l];exact⟨_,c,D+1+1,C,hex,rfl,H,f.lt⟩
  ·have K:((qb (jt n v)).length==5)=false:=by simpa using t
   rw[K];simp only[Bool.not_false,Bool.and_false,ba,↓reduceIte];refine cw ?_;dsimp only;refine cw ?_;refine h _ true d ?_;unfold yr;rw[l,aj az,];refine⟨_,c,D+1,g,hex,?_,H,f.lt⟩;rw[f.less t]
end
noncomputable abbrev jJ (w:World):Bool:=!w.params.followText "set-order"
def ZS (val:Nat->Nat)(i:Nat):Nat:=((List.range i).map val).foldl yr 0
def Dj (val:Nat->Nat)(i:Nat):ZS val (i+1)=yr (ZS val i) (val i):=by
 unfold ZS;rw[bf,aQ,foldl_append]
 rfl
section
variable {prog:Program}{A:Around}
def IW (a:Value){Q1:cb}(h:Q1 (.ref s.heap.objs.size) { s with heap:=s.heap.push (wD (jJ w)) }):
  codeAny (model prog w) A (.call (.builtin "set.__new__") ⟨[.type "set",a],[]⟩) (wants Q1 E) s:=by
 refine codeAny_of_tree ?_;show wpAny _ A.in1 (do checkBuiltinCall "set.__new__" ⟨[.type "set",a],[]⟩;again (.builtin "set.__new__" ⟨[.type "set",a],[]⟩)) _ _ s
 refine cu (wpAny_of_eq (F.newCall_set_1 a) (cw ⟨plainId_quiet F.plain_set_new _,codeAny_builtin F.entry_set_new ?_⟩));rw[Around.under_plainId F.plain_set_new _];unfold Builtin.«set.__new__» Builtin.Frozenset.newClass;have H:=sub_set_self;obtain⟨p,g,d,tk,os⟩:=s;dsimp only
 wp_walk
 refine wpAny_askSetting (cw ?_);dsimp only;simp only[newObj];refine cu (wpAny_alloc (cw ?_));exact cw h
end
section
variable {prog:Program}{A:Around}{R:Result->Shared->Prop}{I:Addr}{wr:b5}{G:Array GenState->Array GenState->Prop}{P:Nat->Value->Prop}{St:Nat->Shared->Prop}
def Eg (W:WalksS prog w A.in1 I fp wr G n P St)(S:Addr)(q:S∉fp)(led:Bool)(val:Nat->Nat)(l:∀i v,P i v->∃t,v=.int ((val i:Nat):Int) t)(N:∀i,i<n->val i<8):
  ∀(k i:Nat)(s:Shared),n-i=k->i<=n->St i s->yt s.heap S led (ZS val i)->
   (∀a,Moved (S::wr) G s a->yt a.heap S led (ZS val n)->R (.ok (.ret .none)) a)->
   codeAny (model prog w) A (.builtin "set.update.loop" ⟨[.ref S,.ref I],[]⟩) R s:=by
 have p:S∉wr:=λh=>q (W.sub _ h);have H:∀b∈wr,b∈S::wr:=λb m=>aw _ m;intro k
 induction k with
 |zero=>
  intro i s K L c D E;have y:i=n:=by omega
  subst y;refine codeAny_builtin F.entry_set_update_loop ?_;rw[Around.under_plainId F.plain_set_update_loop _];show wpAny _ A.in1 (pyNext (.ref I) >>= _) _ _ s;refine cu (W.done s _ _ c λa hm=>?_);show wpAny _ A.in1 (ret Value.none) _ _ a;exact cw (E a (hm.mono H) (D.keep λo x=>hm.heap S _ p x))
 |succ k J=>
  intro i s K L c D E;have d:i<n:=by omega
  refine codeAny_builtin F.entry_set_update_loop ?_;rw[Around.under_plainId F.plain_set_update_loop _];show wpAny _ A.in1 (pyNext (.ref I) >>= _) _ _ s;refine cu (W.item i s _ _ d c λv a M f hm=>?_);obtain⟨t,rfl⟩:=l i v M;have C:yt a.heap S led (ZS val i):=D.keep λo x=>hm.heap S _ p x;show wpAny _ A.in1 (holding [Value.int ((val i:Nat):Int) t] (setAdd S (.int ((val i:Nat):Int) t)) >>= _) _ _ a;refine cu (wpAny_holding ?_);unfold setAdd;refine wpAny_holding ?_;refine cu ((intKind prog w).pyHash (k:=((val i:Nat):Int)) (intKind_is _ _ _ _) ?_);refine Fy (s:={ a with toks:=a.toks+1 }) C (N i d) λh' b g B=>?_
  have z:yt h' S led (ZS val (i+1)):=by rw[Dj];exact B
  refine cw ⟨plainId_quiet F.plain_set_update_loop _,J (i+1) _ (by omega) d (W.frame _ a _ _ f (le_succ _) λb m o e=>?_) z λu j r=>?_⟩
  ·rw[g.2 b (λh:b=S=>q (by rw[<- h];exact m))];exact e
  ·refine E u (Moved.trans W.gtrans ((hm.mono H).then_heap (le_succ _) λb o m e=>?_) j) r
   rw[g.2 b (λh:b=S=>m (by rw[h];exact ay))];exact e
end
section
variable {prog:Program}{A:Around}
def fI (led:Bool)(g:h.get? a=some (wD led)):yt h a led 0:=
 ⟨_,#[],0,g,⟨rfl,rfl,rfl⟩,(by cases led<;>rfl),.nil,by decide⟩
def Iw {l:Addr}{vs:b7}(D:A.handled=none)(ht:s.heap.IsList l its.toArray)(p:IntsAre its (vs.map λ(v:Nat)=>(v:Int)))(J:∀v∈vs,v<8)
  (h:∀(h':Heap)(tk:Nat),yt h' s.heap.objs.size led (vs.foldl yr 0)->
   (∀b o,b<s.heap.objs.size->s.heap.get? b=some o->h'.get? b=some o)->Q .none { s with heap:=h',toks:=tk }):
  codeAny (model prog w) A (.call (.builtin "set.__init__") ⟨[.ref s.heap.objs.size,.ref l],[]⟩) (wants Q E) { s with heap:=s.heap.push (wD led) }:=by
 have hlen:its.length=vs.length:=by
  have:∀{its:b4}{ns:b3},IntsAre its ns->its.length=ns.length:=λh=>by
   induction h with
   |nil=>rfl|cons _ _ _ I=>simp[I]
  rw[this p,ag]
 have S:(s.heap.push (wD led)).get? s.heap.objs.size=some (wD led):=au _ rfl;refine codeAny_call_builtin F.called_set.init.plain F.entry_set_init (check_set_init_1 ⟨_,S,rfl⟩ ?_);obtain⟨ob,f,a,n,q⟩:=ht;obtain⟨P,N,B,y⟩:=ob;dsimp only at a q;cases a;cases q;have g1:=ae (wD led) f;have n1:=F.sub_list_set;have X:=F.sub_list_frozenset;have U:(Value.type "list" == Value.type "dict")=false:=by decide
 have r:(s.heap.push (wD led)).IsList l its.toArray:=⟨_,g1,rfl,n,rfl⟩;unfold Builtin.«set.__init__» noKeywords Builtin.Frozenset.updateFrom;generalize C:pyIter=PI
 wp_walk
 subst C;refine wpAny_pyIter_list r (cu (wpAny_runValue ?_));have lt:l<s.heap.objs.size:=aH f;have sz:(s.heap.push (wD led)).objs.size=s.heap.objs.size+1:=bp ..;have ne:l≠(s.heap.push (wD led)).objs.size:=by rw[sz];exact aM (bh lt)
 have W:=(Walks.list (prog:=prog) (w:=w) (A:=A.in1.in1) (by simp[D]) (s.heap.push (wD led)).objs.size l ne its.toArray).toS
 have g:its.toArray.size=vs.length:=by rw[aA];exact hlen
 rw[g]at W;have off:s.heap.objs.size∉[(s.heap.push (wD led)).objs.size,l]:=by
  rw[sz];intro hm;rcases cy.mp hm with z|hm
  ·exact aM (bz _) z
  ·exact bt lt (cC.mp hm)
 have c:ZS (λi=>vs.getD i 0) vs.length=vs.foldl yr 0:=by
  unfold ZS
  congr 1
  apply bL
  ·simp
  ·intro i f a
   have H:i<vs.length:=by simpa using a
   simp[ab,aa H]
 refine Eg W s.heap.objs.size off led (λi=>vs.getD i 0) (λi v e=>?_) (λi H=>?_) vs.length 0 _ rfl (bR _) ⟨⟨_,au _ rfl,rfl,rfl⟩,r.push _⟩ ?_ ?_
 ·obtain⟨t,j⟩:=IntsAre.int_at p i v (by simpa using e)
  refine⟨t,j.trans ?_⟩;have H:i<vs.length:=by
   have:=(cA.mp (show its[i]? =some v by simpa using e)).1
   omega
  congr 1
  simp[ab,av,aa H]
 ·rw[ab,aa H]
  exact J _ (aS H)
 ·exact fI led (ae _ S)
 ·intro x m u
  rw[c]at u;obtain⟨h',g',d',T,d⟩:=x;have M:g'=s.gens:=m.gens;have j:d'=s.drawn:=m.drawn;have K:d=s.os:=m.os;subst M j K;refine cw ?_;show wpAny _ _ (ret Value.none) _ _ _;refine cw (h h' T u λb o L e=>m.heap b o (λhm=>?_) (ae _ (ae _ e)));rcases cy.mp hm with z|hm
  ·exact aM L z
  ·exact aM (bh L) ((cC.mp hm).trans sz)
def IK {l:Addr}{vs:b7}(j:A.handled=none)(ht:s.heap.IsList l its.toArray)(i:IntsAre its (vs.map λ(v:Nat)=>(v:Int)))(m:∀v∈vs,v<8)
  (h:∀(h':Heap)(tk:Nat),yt h' s.heap.objs.size (jJ w) (vs.foldl yr 0)->
   (∀b o,b<s.heap.objs.size->s.heap.get? b=some o->h'.get? b=some o)->Q (.ref s.heap.objs.size) { s with heap:=h',toks:=tk }):
  wpAny (model prog w) A (call (.type "set") [.ref l]) Q E s:=by
 obtain⟨c,t,d⟩:=F.called_set.mro;have a1:=F.called_set.made;have a2:=F.called_set.sub;have y:=F.called_set.notType;have x:=F.called_set.canCreate;have q:=F.typeCall_set_1 (.ref l);refine wpAny_call (codeAny_of_tree ?_);show wpAny _ _ (callAny (.type "set") _) _ _ _;refine cw ⟨Code.quiet_builtin _ (by decide +kernel),codeAny_builtin F.entry_type_call ?_⟩
 rw[Around.under_plain (weight_type_call_type "set" [.ref l] []) rfl]
 repeat (any_goals (first|assumption|wp_step))
 refine codeAny_mono (IW (.ref l) (E:=E) (Q1:=λu s1=>u=.ref s.heap.objs.size/\s1={ s with heap:=s.heap.push (wD (jJ w)) }) ⟨rfl,rfl⟩) λr s1 a=>?_
 cases r with
 |error e=>exact a|ok n=>
  cases n with
  |ret u=>
   obtain⟨rfl,rfl⟩:=a;have T:Shared.TypeIs { s with heap:=s.heap.push (wD (jJ w)) } (.ref s.heap.objs.size) "set":=⟨_,au _ rfl,rfl⟩
   have p:=F.called_set.init.lookup;have B:=F.called_set.init.bind (.ref s.heap.objs.size)
   repeat (any_goals (first|assumption|wp_step))
   refine codeAny_mono (Iw (E:=E) (Q:=λv s2=>v=.none/\∃h' tk,s2={ s with heap:=h',toks:=tk }/\yt h' s.heap.objs.size (jJ w) (vs.foldl yr 0)/\
    ∀b o,b<s.heap.objs.size->s.heap.get? b=some o->h'.get? b=some o) (by simp[j]) ht i m λh' tk S K=>⟨rfl,h',tk,rfl,S,K⟩) λg s2 H=>?_
   cases g with
   |error e=>exact H|ok f=>
    cases f with
    |ret v=>
     obtain⟨rfl,h',tk,rfl,S,K⟩:=H
     repeat (any_goals (first|assumption|wp_step))
     exact h _ _ S K
    |_=>exact H.elim
  |_=>exact a.elim
end
theorem RI:∀{l:List α}{k:Nat}{w:α},l[k]? =some w->l.Perm (w::l.eraseIdx k)
 |[],_,_,h=>by simp at h|x::l,0,w,h=>by
  simp at h;subst h;simp
 |x::l,k+1,w,h=>by
  rw[List.getElem?_cons_succ]at h;rw[List.eraseIdx_cons_succ];exact((RI h).cons x).trans (List.Perm.swap w x _)
def Br (next:Nat->Nat):∀(f k:Nat)(left:List α)(out:Array α),left.length=f->(pickOrder.go next f k left out).toList.Perm (out.toList++left):=by
 intro f
 induction f with
 |zero=>
  intro k left out h
  have:left=[]:=List.length_eq_zero_iff.mp h
  subst this;unfold pickOrder.go;simp
 |succ f i=>
  intro k left out h;have H:next k%left.length<left.length:=Nat.mod_lt _ (by omega)
  unfold pickOrder.go;rw[aa H];dsimp only;refine(i (k+1) _ _ (by rw[List.length_eraseIdx_of_lt H];omega)).trans ?_
  rw[Array.toList_push,aU];exact List.Perm.append_left _ (RI (aa H)).symm
def E9 (next:Nat->Nat)(xs:Array α):(pickOrder next xs).toList.Perm xs.toList:=by
 unfold pickOrder
 have:=Br next xs.size 0 xs.toList #[] (by simp)
 simpa using this
namespace F
def II:entryFor table "set.__iter__"=some Builtin.«frozenset.__iter__»:=entryFor_alias (id' := "frozenset.__iter__") (by kernel_rfl) rfl (by decide +kernel) (by kernel_rfl)
def Lz:entryFor table "set_iterator.__iter__"=some Builtin.«dict_keyiterator.__iter__»:=entryFor_alias (id' := "dict_keyiterator.__iter__") (by kernel_rfl) rfl (by decide +kernel) (by kernel_rfl)
def To:Manifest.owners.lookup (String.ofList ['r','o','t','a','r','e','t','i','_','t','e','s'].reverse)=some Manifest.sig_set_iterator:=by kernel_rfl
def Jr:Slot "set_iterator" "__next__" "set_iterator.__next__":=
 .of (owner := "set_iterator") (n := "__next__") (by rw[typeLookup_type,builtinLookup_eq_fast];kernel_rfl) (by decide +kernel) (by decide +kernel) (by decide +kernel)
  (by first|exact .inl (by decide +kernel)|exact .inr (by decide +kernel)) (by rw[isSubtype_type];kernel_rfl)
def U2:entryFor table "set_iterator.__next__"=some Builtin.«set_iterator.__next__»:=entryFor_of_tree (by kernel_rfl)
def U1 (a:Value):argsOk "set_iterator.__next__" ⟨[a],[]⟩:=by
 unfold argsOk;rw[signature?_of (id := "set_iterator.__next__") (n:=['_','_','t','x','e','n','_','_']) (o:=['r','o','t','a','r','e','t','i','_','t','e','s']) (by kernel_rfl) To];kernel_rfl
def Ly (a:Value):argsOk "set_iterator.__iter__" ⟨[a],[]⟩:=by
 unfold argsOk;rw[signature?_of (id := "set_iterator.__iter__") (n:=['_','_','r','e','t','i','_','_']) (o:=['r','o','t','a','r','e','t','i','_','t','e','s']) (by kernel_rfl) To];kernel_rfl
def U3:Slot "set_iterator" "__iter__" "set_iterator.__iter__":=
 .of (owner := "set_iterator") (n := "__iter__") (by rw[typeLookup_type,builtinLookup_eq_fast];kernel_rfl) (by decide +kernel) (by decide +kernel) (by decide +kernel)
  (by first|exact .inl (by decide +kernel)|exact .inr (by decide +kernel)) (by rw[isSubtype_type];kernel_rfl)
end F
def Kd (n i:Nat):Nat:=match i with
 |0=>0|i+1=>(qb n).getD i 0+1
def Nz (n i:Nat):Bool:=decide ((qb n).length<i) || (SetTable.below (qb n).toArray (Kd n i)==i)
def CY:((List.range 256).all λn=>(List.range 9).all λi=>Nz n i)=true:=by decide +kernel
def Dv (hn:n<256)(H:i<=(qb n).length):SetTable.below (qb n).toArray (Kd n i)=i:=by
 have a:=J9 n;have h:=cB.mp (cB.mp CY n (cx.mpr hn)) i (cx.mpr (by omega))
 unfold Nz at h;rw[ax (by omega),Bool.false_or,aV]at h
 exact h
def QU (h:Heap)(I S:Addr)(slot i n e:Nat):Prop:=∃o,h.get? I=some o/\o.cls=.type "set_iterator" /\ o.data=.fields #[.int slot 0,.int i 0,.ref S,.int n 0,.int e 0]
noncomputable def yM (w:World)(a:Addr)(E:Nat)(e:Array (Int×Value)):Array (Int×Value):=if w.params.followText "set-order" then pickOrder (w.params.setOrder a E) e else e
def YH (w:World)(a:Addr)(E:Nat)(e:Array (Int×Value)):(yM w a E e).toList.Perm e.toList:=by
 unfold yM
 split
 ·exact E9 _ _
 ·exact List.Perm.refl _
def wa (w:World)(n i:Nat):Nat:=if w.params.followText "set-order" then 0 else Kd n i
section
variable {prog:Program}{A:Around}{o:Obj}{es:Array (Int×Value)}{ep:Nat}
def Xt {Q:Bool->Shared->Prop}(h:Q (w.params.followText "set-order") s):wpAny (model prog w) A setsByText Q E s:=by
 unfold setsByText;exact cu (wpAny_askSetting (cw h))
def L7 (H:s.heap.get? a=some o)(hex:o.ExactSet)(hd:o.data=.set es ep (jc (jJ w) n))(he:jn es.toList (qb n))(hn:n<256)
  (c:Q (.ref s.heap.objs.size) { s with heap:=s.heap.push { cls:=.type "set_iterator",data:=.fields #[.int 0 0,.int 0 0,.ref a,.int es.size 0,.int ep 0] } }):
  wpAny (model prog w) A (pyIter (.ref a)) Q E s:=by
 have hT:s.TypeIs (.ref a) "set":=⟨o,H,hex.1⟩;have hlen:es.size=(qb n).length:=by rw[<- aO,he.length]
 have hf:(jc (jJ w) n).fits es.size=true:=by rw[hlen];exact fits_of hn _
 refine wpAny_pyIter_slot hT slot_set_iter (wpAny_call_entry slot_set_iter hT F.II ?_ (PySem.F.args_set_iter_1 _));unfold Builtin.«frozenset.__iter__»;show wpAny _ _ (Builtin.Frozenset.sizeOf a >>= _) _ _ s;unfold Builtin.Frozenset.sizeOf;refine cu (cu (wpAny_setEntries_of H hd hf (cw ?_)));unfold setDrawn;refine cu (cu (wpAny_setState_of H hd hf ?_));dsimp only;refine cu (Xt (cw ?_));rw[aj (λh=>by
  have b:(!w.params.followText "set-order" && (!(jc (jJ w) n).plain&&decide (es.size > 1)))=true:=h;rw[X4]at b;simp at b)]
 refine cu (cw ?_);refine cu (wpAny_setEpoch_of H hd hf ?_);exact cu (wpAny_newObj_type (cw ⟨_,rfl,"set_iterator",_,⟨_,au _ rfl,rfl⟩,F.Jr.lookup,c⟩))
def TY {Q:Option (Value×Nat)->Shared->Prop}(b:s.heap.get? a=some o)(hd:o.data=.set es ep (jc (jJ w) n))(he:jn es.toList (qb n))(hn:n<256)(l:i<=es.size)
  (h:Q (((yM w a ep es)[i]?).map λe=>(e.2,wa w n (i+1))) s):wpAny (model prog w) A (setNext a (wa w n i) i ep) Q E s:=by
 have hlen:es.size=(qb n).length:=by rw[<- aO,he.length]
 have hf:(jc (jJ w) n).fits es.size=true:=by rw[hlen];exact fits_of hn _
 unfold setNext;refine cu (wpAny_setState_of b hd hf ?_);dsimp only;refine cu (Xt ?_);unfold yM wa at h;cases ht:w.params.followText "set-order" with
 |true=>
  rw[ht]at h;simp only[↓reduceIte]at h ⊢;have p:¬((ep != ep)=true):=by simp
  rw[aj p];unfold setWalk;refine cu (cu (wpAny_setState_of b hd hf ?_));dsimp only;refine cu (Xt ?_);rw[ht];simp only[↓reduceIte];refine cu (wpAny_askSetting (cw (cw ?_)));unfold wa;rw[ht];exact h
 |false=>
  rw[ht]at h;simp only[ba,↓reduceIte]at h ⊢;rw[aj (λh=>by
   have c:(!(jc (jJ w) n).plain&&decide (es.size > 1))=true:=h;rw[X4]at c;simp at c)]
  have d:(jc (jJ w) n).led=true:=by rw[By];unfold jJ;rw[ht];rfl
  refine cu ?_;show wpAny _ _ (if (!(jc (jJ w) n).led&&!es.isEmpty)=true then unsupported "set:maker-not-led" else pure ()) _ _ _;rw[d];simp only[Bool.not_true,Bool.false_and,ba,↓reduceIte];refine cw ?_;have j:SetTable.below (jc (jJ w) n).place (wa w n i)=i:=by
   rw[Pf];unfold wa;rw[ht];exact Dv hn (by omega)
  rw[j,Pf];refine cw ?_
  by_cases t:i<es.size
  ·have v:(qb n)[i]? =some ((qb n)[i]'(by omega)):=aa (by omega)
   have g:(qb n).toArray[i]? =some ((qb n)[i]'(by omega)):=by rw[List.getElem?_toArray];exact v
   have H:es[i]? =some es[i]:=Array.getElem?_eq_getElem t;rw[H]at h;rw[H,g];dsimp only;have f:Kd n (i+1)=(qb n)[i]'(by omega)+1:=by
    show(qb n).getD i 0+1=_;rw[ab,v]
    rfl
   rw[f]at h;exact h
  ·have H:es[i]? =none:=Array.getElem?_eq_none (by omega)
   rw[H]at h;rw[H];exact h
def LA {I:Addr}{e:Int×Value}{Q:Option Value->Shared->Prop}(hit:QU s.heap I a (wa w n i) i es.size ep)(d:s.heap.get? a=some o)(hex:o.ExactSet)(hd:o.data=.set es ep (jc (jJ w) n))(he:jn es.toList (qb n))(hn:n<256)(x:(yM w a ep es)[i]? =some e)
  (j:∀h',QU h' I a (wa w n (i+1)) (i+1) es.size ep->Heap.SameBut I s.heap h'->Q (some e.2) { s with heap:=h' }):
  wpAny (model prog w) A (pyNext (.ref I)) Q E s:=by
 obtain⟨c,H,f,h⟩:=id hit;have hT:s.TypeIs (.ref I) "set_iterator":=⟨c,H,f⟩;have hlen:es.size=(qb n).length:=by rw[<- aO,he.length]
 have hf:(jc (jJ w) n).fits es.size=true:=by rw[hlen];exact fits_of hn _
 unfold pyNext;refine cu (wpAny_attempt (wpAny_callSpecial?_slot (name:=Str.ofString "__next__") hT F.Jr
  (wpAny_call_entry F.Jr hT F.U2 ?_ (F.U1 _))))
 unfold Builtin.«set_iterator.__next__»;show wpAny _ _ (fieldsOf (.ref I) >>= _) _ _ s;refine cu (wpAny_fieldsOf H h ?_);dsimp only;refine cu (wpAny_setEntries_of d hd hf ?_);rw[aj (by simp)]
 have g:i<es.size:=by
  have b:=(Array.getElem?_eq_some_iff.mp x).1;have l:=(YH w a ep es).length_eq;simp at l;omega
 simp only[aG];refine cu (TY d hd he hn (bJ g) ?_);rw[x];dsimp only[Option.map_some];refine cu (wpAny_setField H h (by simp) ?_)
 have b:(s.heap.update I (Obj.mapFields (·.setIfInBounds 0 (rawInt (wa w n (i+1)))))).get? I=some (Obj.mapFields (·.setIfInBounds 0 (rawInt (wa w n (i+1)))) c):=bc _ H (Obj.isFreed_of_fields (Obj.data_mapFields h _));refine cu (wpAny_setField b (Obj.data_mapFields h _) (by simp) ?_)
 refine cw ⟨e.2,rfl,cw (j _ ?_ ((Heap.SameBut.update ..).trans (Heap.SameBut.update ..)))⟩;refine⟨_,bc _ b (Obj.isFreed_of_fields (Obj.data_mapFields (Obj.data_mapFields h _) _)),(Obj.cls_mapFields ..).trans ((Obj.cls_mapFields ..).trans f),?_⟩;rw[Obj.data_mapFields (Obj.data_mapFields h _)];simp[rawInt]
def LB {I:Addr}{Q:Option Value->Shared->Prop}(d:A.handled=none)(hit:QU s.heap I a (wa w n es.size) es.size es.size ep)(c:s.heap.get? a=some o)(hex:o.ExactSet)(hd:o.data=.set es ep (jc (jJ w) n))(he:jn es.toList (qb n))(hn:n<256)
  (f:∀h',Heap.ExtBut I s.heap h'->Q none { s with heap:=h' }):wpAny (model prog w) A (pyNext (.ref I)) Q E s:=by
 obtain⟨i,h,e,H⟩:=id hit;have hT:s.TypeIs (.ref I) "set_iterator":=⟨i,h,e⟩;have hlen:es.size=(qb n).length:=by rw[<- aO,he.length]
 have hf:(jc (jJ w) n).fits es.size=true:=by rw[hlen];exact fits_of hn _
 unfold pyNext;refine cu (wpAny_attempt (wpAny_callSpecial?_slot (name:=Str.ofString "__next__") hT F.Jr
  (wpAny_call_entry F.Jr hT F.U2 ?_ (F.U1 _))))
 unfold Builtin.«set_iterator.__next__»;show wpAny _ _ (fieldsOf (.ref I) >>= _) _ _ s;refine cu (wpAny_fieldsOf h H ?_);dsimp only;refine cu (wpAny_setEntries_of c hd hf ?_);rw[aj (by simp)]
 simp only[aG];refine cu (TY c hd he hn (ao _) ?_);have x:(yM w a ep es)[es.size]? =none:=Array.getElem?_eq_none (by
  have g:=(YH w a ep es).length_eq;simp at g;omega)
 rw[x];dsimp only[Option.map_none];refine cu (wpAny_setField h H (by simp) ?_)
 show wpAny _ _ (newExc (.type "StopIteration") [] >>= _) _ _ _;refine cu ?_;simp only[newExc,newTuple];refine cu (wpAny_newObj_type ?_ (by size_fits))
 refine cu (m:=firstArgMember _ _) (wpAny_of_eq (a:=Value.none) (by first|rfl|(simp only[firstArgMember];rfl)) ?_)
 refine wpAny_newObj_type ?_ (by size_fits)
 simp only[raiseNew];refine cu (wpAny_handled ?_)
 first|rw[show A.in1.handled=none from d]|rw[d]
 refine cu (cw (wpAny_throw ?_));refine cu (wpAny_isInstance (T := "StopIteration") (b:=true) ⟨_,au _ rfl,rfl⟩ isSubtype_stop ?_);exact cw (f _ (((Heap.SameBut.update ..).extBut.push _).push _))
end
def QU.typeIs {I S:Addr}{slot e:Nat}(h:QU s.heap I S slot i n e):s.TypeIs (.ref I) "set_iterator":=let ⟨o,H,c,_⟩:=h;⟨o,H,c⟩
section
variable {prog:Program}{A:Around}{o:Obj}{es:Array (Int×Value)}{ep:Nat}
def LJ {I S:Addr}{slot m e:Nat}(hit:QU s.heap I S slot i m e)(h:Q (.ref I) s):wpAny (model prog w) A (pyIter (.ref I)) Q E s:=by
 refine wpAny_pyIter_slot hit.typeIs F.U3 (wpAny_call_entry F.U3 hit.typeIs F.Lz ?_ (F.Ly _));show wpAny _ _ (ret (.ref I)) _ _ s;exact cw ⟨_,rfl,"set_iterator",_,hit.typeIs,F.Jr.lookup,h⟩
def Walks.setP (p:A.handled=none)(I a:Addr)(g:a≠I)(hex:o.ExactSet)(hd:o.data=.set es ep (jc (jJ w) n))(he:jn es.toList (qb n))(hn:n<256):
  Walks prog w A I [I,a] [I] es.size (λi v=>∃e,(yM w a ep es)[i]? =some e/\v=e.2) (λi h=>QU h I a (wa w n i) i es.size ep/\h.get? a=some o) where
 sub:=λb H=>by simp at H;simp[H]
 frame:=λ_ _ _ st m=>⟨let ⟨x,h1,q⟩:=st.1;⟨x,m I (by simp) x h1,q⟩,m a (by simp) o st.2⟩
 item:=λi s Q E r st f=>by
  have hsz:(yM w a ep es).size=es.size:=by have:=(YH w a ep es).length_eq;simpa using this
  have l:(yM w a ep es)[i]? =some ((yM w a ep es)[i]'(by omega)):=Array.getElem?_eq_getElem (by omega)
  refine LA st.1 st.2 hex hd he hn l λh' d c=>?_;refine f _ h' s.toks ⟨_,l,rfl⟩ ⟨d,?_⟩ λb o H e=>c.extBut b o (λh=>H (by simp[h])) e
  exact c.extBut a o g st.2
 done:=λs Q E st f=>LB p st.1 st.2 hex hd he hn λh' j=>f h' s.toks λb o H e=>j b o (λh=>H (by simp[h])) e
 self:=λ_ _ _ _ st f=>LJ st.1 f
def FH:typeLookup (.type "set") "__len__"=pure (some (.builtin "set.__len__")):=by rw[typeLookup_type,builtinLookup_eq_fast];kernel_rfl
def LV {Q:List Value->Shared->Prop}(hh:A.handled=none)(I:s.heap.get? a=some o)(hex:o.ExactSet)(hd:o.data=.set es ep (jc (jJ w) n))(he:jn es.toList (qb n))(hn:n<256)
  (hQ:∀(h':Heap)(tk:Nat),(∀b o,b<s.heap.objs.size->s.heap.get? b=some o->h'.get? b=some o)->s.heap.objs.size<=h'.objs.size->Q ((yM w a ep es).toList.map (·.2)) { s with heap:=h',toks:=tk }):
  wpAny (model prog w) A (collect (.ref a)) Q E s:=by
 have hT0:s.TypeIs (.ref a) "set":=⟨o,I,hex.1⟩;have t:a<s.heap.objs.size:=aH I;unfold collect;refine cu (wpAny_runValue (codeAny_builtin PySem.F.entry_proto_collect ?_));rw[Around.under_plainId PySem.F.plain_proto_collect _];show wpAny _ A.in1 (newList [] >>= λl=>again (.builtin "list.__iadd__" ⟨[l,.ref a],[]⟩)) _ _ s;refine cu (wpAny_newObj_type ?_);refine cw ⟨plainId_quiet plain_list_iadd _,codeAny_builtin PySem.F.entry_list_iadd ?_⟩;rw[Around.under_plainId plain_list_iadd _];show wpAny _ A.in1 (Builtin.List.listExtendWith (.ref s.heap.objs.size) (.ref a) (.ref s.heap.objs.size)) _ _ _;have f:(s.heap.push { cls:=.type "list",data:=.seq ([]:b4).toArray }).get? a=some o:=ae _ I;have hT:Shared.TypeIs { s with heap:=s.heap.push { cls:=.type "list",data:=.seq ([]:b4).toArray } } (.ref a) "set":=⟨o,f,hex.1⟩
 unfold Builtin.List.listExtendWith;refine cu (wpAny_typeOf hT ?_);have B:Builtin.List.listSameRef (.ref s.heap.objs.size) (.ref a)=false:=by simp[Builtin.List.listSameRef];exact bt t
 have X:(Value.type "set" == Value.type "list")=false:=by decide
 have U:(Value.type "set" == Value.type "tuple")=false:=by decide
 simp only[B,X,U,Bool.or_false,ba,if_false];refine cu (L7 f hex hd he hn ?_);refine cu (wpAny_holding ?_);unfold Builtin.List.listLengthHint;generalize y:s.heap.push { cls:=.type "list",data:=.seq ([]:b4).toArray }=H;have m:H.objs.size=s.heap.objs.size+1:=by rw[<- y,bp]
 have q:H.get? a=some o:=by rw[<- y];exact f
 have P:H.get? s.heap.objs.size=some { cls:=.type "list",data:=.seq ([]:b4).toArray }:=by rw[<- y];exact au _ rfl
 generalize i:({ cls:=.type "set_iterator",data:=.fields #[.int 0 0,.int 0 0,.ref a,.int es.size 0,.int ep 0] }:Obj)=io;have g:Shared.TypeIs { s with heap:=H.push io } (.ref a) "set":=⟨o,ae _ q,hex.1⟩
 have L:(H.push io).get? H.objs.size=some io:=au _ (by rw[<- i];rfl)
 refine cu (wpAny_specialOf g FH ?_)
 wp_delta
 refine cu (wpAny_isInstance (b:=true) g (by rw[isSubtype_type];kernel_rfl) ?_)
 show wpAny _ A.in1 (typeOf (Value.ref a) >>= _) _ _ _;refine cu (wpAny_typeOf g ?_);refine cw ?_;show wpAny _ A.in1 (rule "list.extend.makes-room" >>= λ_=>Builtin.List.listTouch (.ref s.heap.objs.size) >>= λ_=>
  again (.builtin "list.extend.loop" ⟨[.ref s.heap.objs.size,.ref H.objs.size,.ref s.heap.objs.size],[]⟩)) _ _ _
 refine cu (wpAny_rule ?_);have u:(H.push io).get? s.heap.objs.size=some { cls:=.type "list",data:=.seq ([]:b4).toArray }:=ae _ P;refine cu ?_;show wpAny _ A.in1 (updateSeq s.heap.objs.size (·.push .none) >>= λ_=>updateSeq s.heap.objs.size (·.pop)) _ _ _;refine cu (wpAny_updateSeq u rfl ?_);have r:=bc (Obj.mapSeq (·.push Value.none)) u rfl;refine wpAny_updateSeq r rfl ?_;have N:=bc (Obj.mapSeq (·.pop)) r rfl;have d:∀b o,b≠s.heap.objs.size->(H.push io).get? b=some o->(((H.push io).update s.heap.objs.size (Obj.mapSeq (·.push Value.none))).update s.heap.objs.size (Obj.mapSeq (·.pop))).get? b=some o:=
  λb o p e=>(aR _ _ (Ne.symm p)).trans ((aR _ _ (Ne.symm p)).trans e)
 have J:a≠H.objs.size:=by rw[m];exact aM (bh t)
 have x:H.objs.size≠s.heap.objs.size:=by rw[m];exact Nat.succ_ne_self _
 have S:a≠s.heap.objs.size:=aM t;have W:=(Walks.setP (prog:=prog) (w:=w) (A:=A.in1) (by simp[hh]) H.objs.size a J hex hd he hn).toS
 have M:s.heap.objs.size∉[H.objs.size,a]:=λhm=>by
  rcases cy.mp hm with z|hm
  ·exact x z.symm
  ·exact S (cC.mp hm).symm
 have hlen:es.size=(qb n).length:=by rw[<- aO,he.length]
 have h8:=J9 n;refine cw ⟨plainId_quiet PySem.F.plain_extend_loop _,codeAny_extend_loopS W (by rw[sizeLine_eq];omega) _ M _ es.size 0 _ _ _ rfl (bR _) ⟨?_,d a o S (ae _ q)⟩ N (ItemsOf.nil _) λC c c' hm v h=>?_⟩
 ·refine⟨io,d _ _ x L,by rw[<- i],?_⟩
  rw[<- i]
  have:wa w n 0=0:=by unfold wa Kd;split<;>rfl
  rw[this]
  rfl
 show wpAny _ A (load s.heap.objs.size >>= _) _ _ C;refine cu (wpAny_load v ?_);have Z:c.toList=(yM w a ep es).toList.map (·.2):=by
  have hsz:(yM w a ep es).size=es.size:=by have:=(YH w a ep es).length_eq;simpa using this
  apply List.ext_getElem?
  intro j
  by_cases Y:j<es.size
  ·have B:c[j]? =some (c[j]'(by rw[h.1];exact Y)):=Array.getElem?_eq_getElem (by rw[h.1];exact Y)
   obtain⟨e,X,U⟩:=h.2 j _ B;rw[bS,B,av,bS,X,U]
   rfl
  ·rw[aD (by rw[aO,h.1];omega),aD (by rw[ag,aO,hsz];omega)]
 show wpAny _ A (pure c.toList) _ _ C;rw[Z];obtain⟨h',g',d',T,D⟩:=C;have e1:g'=s.gens:=hm.gens;have e2:d'=s.drawn:=hm.drawn;have e3:D=s.os:=hm.os;subst e1 e2 e3;refine cw (hQ h' T (λb ob p e=>?_) ?_)
 ·refine hm.heap b ob (λK=>?_) (d b ob (aM p) (ae _ (by rw[<- y];exact ae _ e)))
  rcases cy.mp K with z|z
  ·exact aM p z
  ·exact aM (bh p) ((cC.mp z).trans m)
 ·exact bJ (aH (show h'.get? s.heap.objs.size=_ from v))
end
theorem Ph:∀{a b:b3},a.Perm b->a.Pairwise (·<=·)->b.Pairwise (·<=·)->a=b
 |[],b,p,_,_=>by rw[List.nil_perm.mp p]|x::a,[],p,_,_=>absurd p.length_eq (by simp)|x::a,y::b,p,H,h=>by
  have d:x∈y::b:=p.mem_iff.mp (ay ..);have c:y∈x::a:=p.mem_iff.mpr (ay ..);have e:x=y:=by
   rcases cy.mp d with e|e
   ·exact e
   ·rcases cy.mp c with E|E
    ·exact E.symm
    ·have g:=(List.pairwise_cons.mp h).1 x e
     have f:=(List.pairwise_cons.mp H).1 y E;omega
  subst e;rw[Ph (List.Perm.cons_inv p) (List.pairwise_cons.mp H).2 (List.pairwise_cons.mp h).2]
def BZ (n v i:Nat):(yr n v).testBit i=(n.testBit i || decide (i=v)):=by
 unfold yr
 by_cases h:n.testBit v=true
 ·rw[ah h]
  by_cases e:i=v
  ·subst e;simp[h]
  ·simp[e]
 ·rw[aj h]
  unfold jt;rw[Nat.testBit_or,Nat.one_shiftLeft,Nat.testBit_two_pow]
  congr 1
  by_cases e:v=i
  ·subst e;simp
  ·simp[e,Ne.symm e]
theorem P9 (i:Nat):∀(vs:b7)(n:Nat),(vs.foldl yr n).testBit i=(n.testBit i || decide (i∈vs))
 |[],n=>by simp|v::vs,n=>by
  rw[List.foldl_cons,P9 i vs,BZ]
  by_cases e:i=v
  ·simp[e]
  ·simp[e]
def EZ (vs:b7):qb (vs.foldl yr 0)=(List.range 8).filter λi=>decide (i∈vs):=by
 unfold qb
 congr 1
 funext i
 rw[P9];simp
def Dl (n:Nat):((qb n).map λ(i:Nat)=>(i:Int)).Pairwise (·<=·):=by
 rw[pairwise_map];unfold qb;refine List.Pairwise.imp ?_ (List.Pairwise.filter _ List.pairwise_lt_range);intro a b h;omega
def jn.snd {vs:b7}(h:jn es vs):∀e∈es,∃tk,e.2=.int e.1 tk:=by
 induction h with
 |nil=>intro e he;cases he|cons v tk h i=>
  intro e he;rcases cy.mp he with rfl|he
  ·exact⟨tk,rfl⟩
  ·exact i e he
theorem Su:∀{l:List (Int×Value)},(∀e∈l,∃tk,e.2=.int e.1 tk)->IntsAre (l.map (·.2)) (l.map (·.1))
 |[],_=>.nil|e::l,h=>by
  obtain⟨tk,he⟩:=h e (ay ..);rw[aF,aF,he];exact .cons _ tk (Su λx H=>h x (aw _ H))
section
variable {prog:Program}{A:Around}{o:Obj}{es:Array (Int×Value)}{ep:Nat}
def HV (u:A.handled=none)(S:yt s.heap a (jJ w) n)
  (h:∀(h':Heap)(tk:Nat)(l:Addr)(I:b4)(c:Nat),s.heap.objs.size<=l->h'.get? l=some { cls:=.type "list",data:=.seq I.toArray c }->IntsAre I ((qb n).map λ(i:Nat)=>(i:Int))->
   (∀b o,s.heap.get? b=some o->h'.get? b=some o)->Q (.ref l) { s with heap:=h',toks:=tk }):
  wpAny (model prog w) A (call (.builtin "sorted") [.ref a]) Q E s:=by
 obtain⟨o,f,p,t,hex,hd,he,hn⟩:=S;refine Calls.call_function_entry kind_sorted plain_sorted entry_sorted (args_sorted1 _) ?_;unfold Builtin.«sorted»;refine cu (m:=checkCount "sorted" 1 1 _) (cw ?_);refine cu (LV (by simp[u]) t hex hd he hn λd tk kp hle=>?_)
 have g:=YH w a p f;have q:IntsAre ((yM w a p f).toList.map (·.2)) ((yM w a p f).toList.map (·.1)):=Su λe hm=>he.snd e (g.mem_iff.mp hm);have H:((yM w a p f).toList.map (·.1)).Perm ((qb n).map λ(i:Nat)=>(i:Int)):=by
  rw[<- he.map1];exact g.map _
 have hlen:((yM w a p f).toList.map (·.2)).length<=8:=by
  rw[ag,g.length_eq,he.length];exact J9 n
 generalize (yM w a p f).toList.map (·.2)=vs at q hlen;generalize (yM w a p f).toList.map (·.1)=ns at q H;refine cu (wpAny_newList ?_);have L:(d.push (seqObj "list" vs.toArray 0)).get? d.objs.size=some (seqObj "list" vs.toArray 0):=au _ rfl;show wpAny _ _ _ _ _ { s with heap:=d.push (seqObj "list" vs.toArray 0),toks:=tk }
 refine cu (wpAny_holding (wpAny_call_entry slot_list_sort ⟨_,L,rfl⟩ entry_list_sort (list_sort_tree L q (by omega) λout N a1 a2 z=>⟨_,rfl,?_⟩) (args_list_sort _)))
 have j:N=(qb n).map λ(i:Nat)=>(i:Int):=Ph (a2.trans H) z (Dl n);subst j;refine cw ⟨_,rfl,?_⟩;have y:=get?_update_seq L (λ_=>(#[]:Array Value));have x:=ae (seqObj "list" #[] 0) (ae (seqObj "tuple" vs.toArray 0) y);obtain⟨c,v⟩:∃c,(sortedHeap (d.push (seqObj "list" vs.toArray 0)) d.objs.size vs out).get? d.objs.size=some (seqObj "list" out c):=⟨_,get?_update_seq x (λ_=>out)⟩;refine h _ tk d.objs.size out.toList c hle ?_ a1 λb ob e=>?_
 ·rw[Array.toArray_toList]
  exact v
 ·have r:b<s.heap.objs.size:=aH e
  have K:=kp b ob r e;have nb:d.objs.size≠b:=bt (aJ r hle);unfold sortedHeap;refine(aR _ _ nb).trans ?_;refine ae _ (ae _ ?_);exact(aR _ _ nb).trans (ae _ K)
end
section
def fJ (K:Frag)(w:World):List V->Hp->VK->Prop:=λxs H Q=>∃(p:Addr) (vs:b7),xs=[.ref p]/\qC K H p (vs.map λ(v:Nat)=>V.int (v:Int))/\(∀v∈vs,v<8)/\∀l,H l=none->Q (.ref l) (upd H l (.ext λh=>yt h l (jJ w) (vs.foldl yr 0)))
def Dn (l:X.calm=true):jN X (.type "set") (fJ X.K X.w):=by
 intro pins s σ H xs us Q I r h;obtain⟨p,vs,rfl,g,m,q⟩:=h;obtain⟨u,rfl,d⟩:=vals1 r;cases d;obtain⟨i,c,⟨o,k,t,n,B,E⟩,_⟩:=I.list g;have f:Vals ((vs.map λ(v:Nat)=>(v:Int)).map V.int) i:=by rw[aI];exact c
 refine IK (I.ok.hd l) ⟨o,t,n,k,E⟩ (intsAre_of f) m λh' tk S kp=>?_;refine⟨.ref s.heap.objs.size,_,I.laid (t':=tk) (o:=.ext λh=>yt h s.heap.objs.size (jJ X.w) (vs.foldl yr 0)) (λb o e=>kp b o (aH e) e) (ao _) ⟨S,?_,λy x a b=>a.keep b⟩,rfl,q _ (I.hok.fresh (ao _))⟩;obtain⟨o,z,A,j,_⟩:=S;exact⟨o,j⟩
theorem YE:∀{ns:b3}{i:b4},IntsAre i ns->Vals (ns.map V.int) i
 |_,_,.nil=>.nil|_,_,.cons n t h=>.cons ⟨t,rfl⟩ (YE h)
def Hv (j:X.calm=true):jN X (.builtin "sorted") (λxs H Q=>∃(p:Addr) (n:Nat),xs=[.ref p]/\H p=some (.ext λh=>yt h p (jJ X.w) n)/\∀l,H l=none->Q (.ref l) (upd H l (.lst ((qb n).map λ(v:Nat)=>V.int (v:Int))))):=by
 intro pins s σ H xs us Q I r h;obtain⟨p,n,rfl,e,q⟩:=h;obtain⟨u,rfl,d⟩:=vals1 r;cases d;have S:yt s.heap p (jJ X.w) n:=(show jI X.prog X.w H s.heap p (.ext λh=>yt h p (jJ X.w) n) from I.hok p _ e).1
 refine HV (I.ok.hd j) S λh' tk l i c b g f kp=>?_;have a:=YE f;rw[aI]at a;refine⟨.ref l,_,I.laid (t':=tk) (o:=.lst ((qb n).map λ(v:Nat)=>V.int (v:Int))) kp b ⟨?_,i,c,a,g⟩,rfl,q _ (I.hok.fresh b)⟩;rw[ag,sizeLine_eq]
 have:=J9 n
 omega
noncomputable def Qn:List Int->Option (b7)
 |[]=>some []|i::is=>if 0<=i/\i<8 then(Qn is).map (i.toNat::·) else none
theorem RZ:∀{is:b3}{vs:b7},Qn is=some vs->is=vs.map (λ(v:Nat)=>(v:Int))/\∀v∈vs,v<8
 |[],_,e=>by cases e;exact⟨rfl,λv H=>by cases H⟩|i::is,vs,e=>by
  unfold Qn at e
  by_cases h:0<=i/\i<8
  ·rw[ah h]at e
   cases E:Qn is with
   |none=>rw[E]at e;cases e|some us=>
    rw[E]at e;cases e;obtain⟨b,a⟩:=RZ E;refine⟨?_,λv H=>?_⟩
    ·rw[aF,<- b,Int.toNat_of_nonneg h.1]
    ·rcases cy.mp H with rfl|H
     ·omega
     ·exact a v H
  ·rw[aj h]at e;cases e
def X8:W->Hx->R W:=λw A=>match w with
 |.ref n=>match A[n]? with
  |some (.lst ws)=>match intsOf ws with
   |some is=>match Qn is with
    |some vs=>.ok (.ref A.length) (A++[.lst (((List.range 8).filter λi=>decide (i∈vs)).map λ(i:Nat)=>W.int (i:Int))])|none=>.bad
   |none=>.bad
  |_=>.bad
 |_=>.bad
def Wy (m:Ev):Ev:=λρ A=>(m ρ A).bind λw A1=>X8 w A1
end
def El (a b:Value):argsOk "sum" ⟨[a,b],[]⟩:=by unfold argsOk;kernel_rfl
def sub_list_str:isSubtype (.type "list") (.type "str")=pure false:=by rw[isSubtype_type];kernel_rfl
def sub_list_bytes:isSubtype (.type "list") (.type "bytes")=pure false:=by rw[isSubtype_type];kernel_rfl
def sub_list_bytearray:isSubtype (.type "list") (.type "bytearray")=pure false:=by rw[isSubtype_type];kernel_rfl
noncomputable abbrev kQ (xs:Array Value)(c:Nat):Obj:={ cls:=.type "list",dict:=none,data:=.seq xs c,slots:=#[] }
section
variable {prog:Program}{A:Around}{R:Result->Shared->Prop}{I:Addr}{wr:b5}{G:Array GenState->Array GenState->Prop}{P:Nat->Value->Prop}{St:Nat->Shared->Prop}
def Ec (W:WalksS prog w A.in1 I fp wr G n P St)(S B:Addr)(z:S∉fp)(hBS:B<=S)(ad:Nat->Addr)(a:Nat->List Value)(q:∀i v,P i v->v=.ref (ad i))(m:∀i,i<n->ad i≠S/\ad i∉wr)(hwS:∀b∈wr,b<S):
  ∀(k i:Nat)(s:Shared)(T:Addr)(c Q:Nat)(acc:b4),n-i=k->i<=n->St i s->s.heap.get? S=some (kQ #[.ref T] c)->T≠S->T∉wr->s.heap.get? T=some (kQ acc.toArray Q)->
   (∀j,i<=j->j<n->∃cj,s.heap.get? (ad j)=some (kQ (a j).toArray cj))->(acc++(((List.range' i k).map a).flatten)).length<=sizeLine->
   (∀d U c',Moved (S::wr) G s d->d.heap.get? U=some (kQ (acc++(((List.range' i k).map a).flatten)).toArray c')->((k=0/\U=T)∨B<=U)->R (.ok (.ret (.ref U))) d)->
   codeAny (model prog w) A (.builtin "sum.loop" ⟨[.ref I,.ref S,rawInt 2,rawInt 0],[]⟩) R s:=by
 have hSw:S∉wr:=λh=>z (W.sub _ h);have f:∀b∈wr,b∈S::wr:=λb g=>aw _ g;intro k
 induction k with
 |zero=>
  intro i s T c Q acc hk hi t K hTS p hT hl J M;have hin:i=n:=by omega
  subst hin;refine codeAny_builtin PySem.F.entry_sum_loop ?_;rw[Around.under_plainId plain_sum_loop _];show wpAny _ A.in1 (seqItems? (.ref S) >>= _) _ _ s;refine cu (wpAny_seqItems K rfl ?_);show wpAny _ A.in1 (tryCatch (pyNext (.ref I)) _ >>= _) _ _ s;refine cu (wpAny_tryCatch (W.done s _ _ t λd hm=>?_));refine cw (M d T Q (hm.mono f) ?_ (.inl ⟨rfl,rfl⟩))
  have:=hm.heap T _ p hT
  simpa using this
 |succ k ih=>
  intro i s T c Q acc hk hi t K hTS p hT hl J M;have H:i<n:=by omega
  refine codeAny_builtin PySem.F.entry_sum_loop ?_;rw[Around.under_plainId plain_sum_loop _];show wpAny _ A.in1 (seqItems? (.ref S) >>= _) _ _ s;refine cu (wpAny_seqItems K rfl ?_);show wpAny _ A.in1 (tryCatch (pyNext (.ref I)) _ >>= _) _ _ s;refine cu (wpAny_tryCatch (W.item i s _ _ H t λv d hP r hm=>?_));have hv:=q i v hP;subst hv;have E:=hm.heap S _ hSw K;have hT':=hm.heap T _ p hT;obtain⟨ci,hli⟩:=hl i (ao _) H;have x:=hm.heap (ad i) _ (m i H).2 hli;rw[bK,aF,aZ,<- aU]at J M;have Z:(acc++a i).length<=sizeLine:=by rw[aB]at J;omega
  show wpAny _ A.in1 ((holding [Value.ref (ad i)] (binaryOp .Add (.ref T) (.ref (ad i)))).attempt >>= _) _ _ _;refine cu (wpAny_attempt (wpAny_holding (PySem.P.add_list hT' x ?_ (by rw[aA,aA,<- aB];exact Z))))
  have ea:acc.toArray++(a i).toArray=(acc++a i).toArray:=by simp
  rw[ea];have L:S<d.heap.objs.size:=aH E;have D:=ae (kQ (acc++a i).toArray 0) E;have hN1:(d.heap.push (kQ (acc++a i).toArray 0)).get? d.heap.objs.size=some (kQ (acc++a i).toArray 0):=au _ rfl;show wpAny _ A.in1 (updateSeq S (λ_=>#[.ref d.heap.objs.size]) >>= _) _ _ _;refine cu (wpAny_updateSeq D rfl ?_);have C:=bc (Obj.mapSeq λ_=>#[Value.ref d.heap.objs.size]) D rfl;refine cu (wpAny_letGo ?_);have N:d.heap.objs.size≠S:=bt L;have l:∀b o,b≠S->d.heap.get? b=some o->(((d.heap.push (kQ (acc++a i).toArray 0)).update S (Obj.mapSeq λ_=>#[Value.ref d.heap.objs.size])).update S (Obj.mapSeq λ_=>#[Value.ref d.heap.objs.size])).get? b=some o:=
   λb o g e=>(aR _ _ (Ne.symm g)).trans ((aR _ _ (Ne.symm g)).trans (ae _ e))
  have Y:d.heap.objs.size∉wr:=λhm2=>a5 _ (lt_trans (hwS _ hm2) L);refine cu (wpAny_updateSeq C rfl (cw ⟨plainId_quiet plain_sum_loop _,ih (i+1) _ d.heap.objs.size _ 0 (acc++a i) (by omega) H (W.frame _ d _ _ r (by first|exact ao _|exact le_succ _|omega) λb g o e=>l b o (λh=>z (h ▸ g)) e) (bc _ C rfl) N Y ?_ ?_ J λX T'' c'' u y hor=>?_⟩))
  ·exact(aR _ _ (Ne.symm N)).trans ((aR _ _ (Ne.symm N)).trans hN1)
  ·intro j h1 h2
   obtain⟨cj,hj⟩:=hl j (by omega) h2
   exact⟨cj,l _ _ (m j h2).1 (hm.heap _ _ (m j h2).2 hj)⟩
  ·refine M X T'' c'' (Moved.trans W.gtrans ((hm.mono f).then_heap (by first|exact ao _|exact le_succ _|omega) λb o g e=>l b o (λh=>g (by rw[h];exact ay)) e) u) y (.inr ?_)
   rcases hor with ⟨_,rfl⟩|h
   ·exact bJ (bT hBS L)
   ·exact h
def Dq {p q:Addr}{N:Nat}{a:b5}{itss:List (b4)}(hh:A.handled=none)(y:s.heap.IsList p (a.map Value.ref).toArray)(S:s.heap.get? q=some (kQ #[] N))
  (hlen:a.length=itss.length)(U:∀i,i<a.length->∃c,s.heap.get? (a.getD i 0)=some (kQ (itss.getD i []).toArray c))(C:a≠[])(Z:itss.flatten.length<=sizeLine)
  (h:∀(h':Heap)(tk:Nat)(l:Addr)(c:Nat),s.heap.objs.size<=l->h'.get? l=some (kQ itss.flatten.toArray c)->(∀b o,s.heap.get? b=some o->h'.get? b=some o)->Q (.ref l) { s with heap:=h',toks:=tk }):
  wpAny (model prog w) A (call (.builtin "sum") [.ref p,.ref q]) Q E s:=by
 refine call_function_tree PySem.F.kind_sum PySem.F.plain_sum PySem.F.entry_sum (El _ _) ?_;unfold Builtin.«sum»;simp only[aN,bE];rw[aj (by decide)]
 refine cu (wpAny_of_eq (show Builtin.Builtins.bindParams "sum" ["start"] 0 ⟨[.ref q],[]⟩=pure [some (.ref q)] from rfl) ?_)
 refine cu (wpAny_pyIter_list y ?_);refine cu (cw ?_);generalize d:({ cls:=.type "list_iterator",data:=.fields #[.ref p,.int 0 0] }:Obj)=io;have n:(s.heap.push io).get? q=some (kQ #[] N):=ae _ S;have hT:Shared.TypeIs { s with heap:=s.heap.push io } (.ref q) "list":=⟨_,n,rfl⟩
 simp only[forIn_cons,forIn_nil];refine cu (cu (cu (wpAny_isInstance (b:=false) hT sub_list_str ?_)));simp only[ba,if_false];refine cw (cu (cu (wpAny_isInstance (b:=false) hT sub_list_bytes ?_)));simp only[ba,if_false];refine cw (cu (cu (wpAny_isInstance (b:=false) hT sub_list_bytearray ?_)));simp only[ba,if_false];refine cw (cw ?_);refine cu (wpAny_newObj_type ?_);have sz:(s.heap.push io).objs.size=s.heap.objs.size+1:=bp ..;have m:p<s.heap.objs.size:=by obtain⟨o,e,_⟩:=y;exact aH e
 have g:q<s.heap.objs.size:=aH S;have ltI:s.heap.objs.size<(s.heap.push io).objs.size:=by rw[sz];exact bz _
 have L:∀b,b<s.heap.objs.size->b<(s.heap.push io).objs.size:=λb I=>lt_trans I ltI;have W:=(Walks.list (prog:=prog) (w:=w) (A:=A.in1) (by simp[hh]) s.heap.objs.size p (aM m) (a.map Value.ref).toArray).toS
 have M:(a.map Value.ref).toArray.size=a.length:=by simp
 rw[M]at W;have J:(s.heap.push io).objs.size∉[s.heap.objs.size,p]:=λhm=>by
  rcases cy.mp hm with z|hm
  ·exact bt ltI z
  ·exact bt (L p m) (cC.mp hm)
 have t:∀i,i<a.length->a.getD i 0<s.heap.objs.size:=λi f=>by obtain⟨c,e⟩:=U i f;exact aH e
 have K:(s.heap.push io).get? s.heap.objs.size=some io:=au _ (by rw[<- d];rfl)
 have H:((List.range' 0 a.length).map λj=>itss.getD j []).flatten=itss.flatten:=by
  congr 1
  rw[hlen]
  apply bL
  ·simp
  ·intro i h1 h2
   simp[ab,aa h2]
 refine cw ⟨plainId_quiet plain_sum_loop _,Ec W (s.heap.push io).objs.size s.heap.objs.size J (bJ ltI) (λi=>a.getD i 0) (λi=>itss.getD i []) (λi v e=>?_) (λi f=>⟨aM (L _ (t i f)),λhm=>?_⟩) (λb I=>?_)
  a.length 0 _ q 0 N [] (by omega) (bR _) ⟨⟨io,ae _ K,by rw[<- d],by rw[<- d];rfl⟩,(y.push _).push _⟩ (au _ rfl) (aM (L q g)) (λhm=>?_) (ae _ n) (λj _ hj=>?_) ?_ λY X c' hm r B=>?_⟩
 ·have f:i<a.length:=by
   have:=(Array.getElem?_eq_some_iff.mp e).1
   simpa using this
  have u:(a.map Value.ref)[i]? =some v:=by simpa using e
  rw[av,aa f]at u;rw[ab,aa f];exact(aC u).symm
 ·exact aM (t i f) (cC.mp hm)
 ·rw[cC.mp I];exact ltI
 ·exact aM g (cC.mp hm)
 ·obtain⟨c,e⟩:=U j hj
  exact⟨c,ae _ (ae _ e)⟩
 ·rw[bx,H];exact Z
 ·rw[bx,H]at r
  have hB:s.heap.objs.size<=X:=by
   rcases B with ⟨h0,_⟩|h0
   ·exact absurd (List.length_eq_zero_iff.mp h0) C
   ·exact h0
  obtain⟨h',g',d',T,x⟩:=Y;have e1:g'=s.gens:=hm.gens;have u:d'=s.drawn:=hm.drawn;have e3:x=s.os:=hm.os;subst e1 u e3;refine h h' T X c' hB r λb o e=>hm.heap b o (λD=>?_) (ae _ (ae _ e));have P:b<s.heap.objs.size:=aH e;rcases cy.mp D with z|z
  ·exact aM (L b P) z
  ·exact aM P (cC.mp z)
end
section
variable {K:Frag}
def Me (K:Frag):List V->Hp->VK->Prop:=λxs H Q=>∃(p q:Addr) (ls:List (Addr×List V)),xs=[.ref p,.ref q]/\H p=some (.lst (ls.map λl=>V.ref l.1))/\H q=some (.lst [])/\(∀l∈ls,H l.1=some (.lst l.2))/\ls≠[]/\(ls.map (·.2)).flatten.length<=zQ/\
 ∀l,H l=none->Q (.ref l) (upd H l (.lst (ls.map (·.2)).flatten))
theorem R0:∀{ls:List (Addr×List V)}{us:b4},Vals (ls.map λl=>V.ref l.1) us->us=(ls.map (·.1)).map Value.ref
 |[],_,h=>by cases h;rfl|l::ls,_,h=>by
  cases h with
  |cons r t=>cases r;rw[R0 t];rfl
def EV (Y:X.calm=true):jN X (.builtin "sum") (Me X.K):=by
 intro pins s σ H xs us Q I r h;obtain⟨p,q,ls,rfl,S,P,T,m,z,k⟩:=h;obtain⟨u,v,rfl,B,A⟩:=Vals.two r;cases B;cases A;obtain⟨_,J,np,D,_,Z⟩:=I.lstM S;obtain⟨_,j,nq,C,lq,eq⟩:=I.lstM P;have b:j=[]:=by cases C;rfl
 subst b;have d:=R0 D;subst d;have hex:∀L:List (Addr×List V),(∀l∈L,H l.1=some (.lst l.2))->∃itss:List (b4),itss.length=L.length/\(∀i,i<L.length->∃c,s.heap.get? ((L.map (·.1)).getD i 0)=some (kQ (itss.getD i []).toArray c))/\Vals (L.map (·.2)).flatten itss.flatten:=by
  intro L
  induction L with
  |nil=>intro _;exact⟨[],rfl,λi f=>absurd f (not_lt_zero _),.nil⟩|cons l L M=>
   intro hm;obtain⟨itss,y,w,g⟩:=M λx N=>hm x (aw _ N);obtain⟨_,it,n,E,_,e1⟩:=I.lstM (hm l (ay ..));refine⟨it::itss,by simp[y],λi f=>?_,?_⟩
   ·cases i with
    |zero=>exact⟨n,e1⟩|succ i=>exact w i (by simpa using f)
   ·rw[aF,aZ,aZ]
    exact E.append g
 obtain⟨itss,y,w,g⟩:=hex ls T;have t:itss.flatten.length=(ls.map (·.2)).flatten.length:=g.length.symm;refine Dq (I.ok.hd Y) (itss:=itss) ⟨_,Z,rfl,np,rfl⟩ eq (by simp[y]) (λi f=>w i (by simpa using f)) (λe=>m (List.map_eq_nil_iff.mp e)) (by rw[t];exact gA z) λh' tk l c a U kp=>?_
 exact⟨.ref l,_,I.laid (t':=tk) (o:=.lst (ls.map (·.2)).flatten) kp a ⟨gA z,itss.flatten,c,g,U⟩,rfl,k _ (I.hok.fresh a)⟩
noncomputable def wW (A:Hx):List W->Option (List (List W))
 |[]=>some []|.ref k::us=>match A[k]? with
  |some (.lst ws)=>(wW A us).map (ws::·)|_=>none
 |_::_=>none
def ZO:W->W->Hx->R W:=λx y A=>match x,y with
 |.ref n,.ref k=>match A[n]?,A[k]? with
  |some (.lst us),some (.lst [])=>match wW A us with
   |some w=>if us≠[]/\w.flatten.length<=zQ then .ok (.ref A.length) (A++[.lst w.flatten]) else .bad|none=>.bad
  |_,_=>.bad
 |_,_=>.bad
def Ay:∀x y A,qJ (ZO x y A):=λx y A=>by
 unfold ZO
 split
 ·split
  ·split
   ·exact wX jy qA
   ·exact qA
  ·exact qA
 ·exact qA
theorem zu.app:∀{ws us:List W}{xs y:List V},zu K φ H ws xs->zu K φ H us y->zu K φ H (ws++us) (xs++y)
 |[],_,_,_,h,a=>by cases h;exact a|w::ws,_,_,_,⟨v,r,e,h,t⟩,a=>by subst e;exact⟨v,_,rfl,h,zu.app t a⟩
theorem Rf (S:zL K φ A H):∀{us:List W}{w:List (List W)}{vs:List V},wW A us=some w->zu K φ H us vs->∃ls:List (Addr×List V),vs=ls.map (λl=>V.ref l.1)/\(∀l∈ls,H l.1=some (.lst l.2))/\zu K φ H w.flatten (ls.map (·.2)).flatten/\ls.length=us.length
 |[],_,_,e,h=>by cases e;cases h;exact⟨[],rfl,λl a=>(by cases a),rfl,rfl⟩|u::us,w,_,e,⟨v,r,m,h,t⟩=>by
  subst m;cases u with
  |ref k=>
   unfold wW at e;cases E:A[k]? with
   |none=>rw[E]at e;cases e|some o=>cases o with
    |lst ws=>
     rw[E]at e;dsimp only at e;cases b:wW A us with
     |none=>rw[b]at e;cases e|some c=>
      rw[b]at e;cases e;obtain⟨p,xs,rfl,_,f,d⟩:=S.lst h E;obtain⟨ls,rfl,j,i,g⟩:=Rf S b t;refine⟨(p,xs)::ls,rfl,λl a=>?_,zu.app d i,by simp[g]⟩
      rcases cy.mp a with rfl|a
      ·exact f
      ·exact j l a
    |_=>rw[E]at e;cases e
  |_=>cases e
def CO:jY K (λx y=>Me K [x,y]) ZO:=λφ A H x y u v Q S g q p=>by
 unfold ZO at p;cases u with
 |ref n=>cases v with
  |ref k=>
   dsimp only at p;cases E:A[n]? with
   |none=>rw[E]at p;exact p.elim|some o=>cases o with
    |lst us=>
     cases a:A[k]? with
     |none=>rw[E,a]at p;exact p.elim|some j=>cases j with
      |lst zs=>cases zs with
       |nil=>
        rw[E,a]at p;dsimp only at p;cases b:wW A us with
        |none=>rw[b]at p;exact p.elim|some w=>
         rw[b]at p;dsimp only at p
         by_cases h:us≠[]/\w.flatten.length<=zQ
         ·rw[ah h]at p
          obtain⟨i,xs,rfl,_,s,f⟩:=S.lst g E;obtain⟨P,Y,rfl,_,m,r⟩:=S.lst q a;cases r;obtain⟨ls,rfl,z,d,c⟩:=Rf S b f;refine⟨i,P,ls,rfl,s,m,z,λe=>?_,by rw[<- d.length];exact h.2,λl t=>?_⟩
          ·rw[e]at c
           exact h.1 (List.length_eq_zero_iff.mp c.symm)
          ·obtain⟨a1,a2,B⟩:=gG S t d
           exact p _ _ _ a1 a2 B
         ·rw[aj h]at p;exact p.elim
       |cons _ _=>rw[E,a]at p;exact p.elim
      |_=>rw[E,a]at p;exact p.elim
    |_=>rw[E]at p;exact p.elim
  |_=>exact p.elim
 |_=>cases v<;>exact p.elim
variable {a b:Expr}{ma mb:Ev}
def fK (t:TA):TE:=λσ H Q=>t σ H λvs H1=>∃i j:Int,vs=[.int i,.int j]/\∀p,H1 p=none->Q (.ref p) (upd H1 p (.rng i j))
def Ou {T:TA}(g:Gl X "range")(hm:X.mg "range"=none)(l:PA X [a,b] T)(f:starEach [a,b] X.env=[(false,eval a X.env),(false,eval b X.env)])(c:starEach [b] X.env=[(false,eval b X.env)]):PE X (.Call (.Name "range" p) [a,b] [] pos) (fK T):=by
 intro pins s σ H Q I h;refine Call_ (Zf I g hm boot_range (PyProof.Rows.callWith_type1 (zU (l pos pins s σ H _ I h) λus s1 ⟨vs,H1,d,r,e⟩=>?_) (by rw[f,c]) (by rw[c];rfl)))
 obtain⟨i,j,rfl,q⟩:=e;obtain⟨u,v,rfl,⟨t,rfl⟩,⟨m,rfl⟩⟩:=Vals.two r;refine call_range_2 ⟨.ref _,_,d.laid (o:=.rng i j) (λb o E=>ae _ E) (ao _) ?_,rfl,q _ (d.hok.fresh (ao _))⟩;exact⟨_,_,_,au _ rfl⟩
noncomputable def kC (lo:Int)(n:Nat):List V:=(List.range n).map λ(i:Nat)=>V.int (lo+i)
def Ff (A:X.calm=true):jN X (.type "list") (λxs H Q=>∃(r:Addr) (i j:Int),xs=[.ref r]/\H r=some (.rng i j)/\(-(2 ^ 62)<=i/\i<2 ^ 62)/\(-(2 ^ 62)<=j/\j<2 ^ 62)/\(j-i).toNat<=sizeLine/\∀l,H l=none->Q (.ref l) (upd H l (.lst (kC i (j-i).toNat)))):=by
 intro pins s σ H xs us Q I r h;obtain⟨p,i,j,rfl,x,⟨a1,a2⟩,⟨D,B⟩,z,q⟩:=h;obtain⟨u,rfl,g⟩:=vals1 r;cases g;obtain⟨t1,T,t3,y⟩:=I.hok p _ x;have E:sizeLine=16777216:=sizeLine_eq;refine PySem.call_list_range (n:=(j-i).toNat) (I.ok.hd A) (show IsRange s.heap p i j 1 t1 T t3 from y) (small_one (by omega) (by omega) D B) (by rw[rangeSize_one];split<;>omega) (by omega) λh' tk acc C K S ⟨hn,d⟩=>?_
 refine⟨.ref s.heap.objs.size,_,I.laid (t':=tk) (o:=.lst (kC i (j-i).toNat)) K (ao _) ?_,rfl,q _ (I.hok.fresh (ao _))⟩;refine⟨by unfold kC;simpa using z,acc.toList,C,?_,by simpa using S⟩
 have a:∀(l:b4)(k:Nat),(∀(m:Nat) v,l[m]? =some v->∃t,v=.int (i+((k+m:Nat):Int)) t)->Vals ((List.range' k l.length).map λ(m:Nat)=>V.int (i+(m:Int))) l:=by
  intro l
  induction l with
  |nil=>intro k _;exact .nil|cons v l w=>
   intro k e;rw[aN,bK,aF];refine .cons ?_ (w (k+1) λm f a=>?_)
   ·obtain⟨t,rfl⟩:=e 0 v rfl
    exact⟨t,rfl⟩
   ·obtain⟨t,rfl⟩:=e (m+1) f (by simpa using a)
    exact⟨t,by first|rfl|(congr 1<;>omega)|(simp;omega)⟩
 have b:acc.toList.length=(j-i).toNat:=by simpa using hn
 have:=a acc.toList 0 λm v c=>by
  obtain⟨t,rfl⟩:=d m v (by simpa using c)
  exact⟨t,by first|rfl|(congr 1<;>omega)|(simp;omega)⟩
 rw[b]at this;unfold kC;rw[bC];exact this
def QY (ma mb:Ev):Ev:=λρ A=>(ma ρ A).bind λx A1=>(mb ρ A1).bind λy A2=>match x,y with
 |.int i,.int j=>if je i&&(je j&&decide ((j-i).toNat<=zQ)) then .ok (.ref A2.length) (A2++[.lst ((List.range (j-i).toNat).map λ(k:Nat)=>W.int (i+k))]) else .bad|_,_=>.bad
variable {prog:Program}{A:Around}
def LQ {t S:Addr}{l v:Value}{lo i:cf}(ht:IsTup s.heap t items)(c:s.heap.IsSliceOf S l v .none)(p:IsPart l lo)(pu:IsPart v i)
  (hw:HT.qf items.size 0 lo=0/\HT.qf items.size items.size i=items.size)(h:Q (.ref t) s):wpAny (model prog w) A (getItem (.ref t) (.ref S)) Q E s:=by
 obtain⟨os,H,a,d⟩:=id c;have b:s.TypeIs (.ref S) "slice":=⟨os,H,a⟩;unfold getItem
 try with_reducible refine wpAny_holding ?_
 first|refine cu (cw ?_)|skip
 refine cu (wpAny_sequenceKey ht.typeIs (by decide) ?_)
 refine cu (wpAny_callSpecial?_slot (name:=Str.ofString "__getitem__") ht.typeIs PyProof.Rows.slot_tuple_getitem
  (wpAny_call_entry PyProof.Rows.slot_tuple_getitem ht.typeIs PyProof.Rows.entry_tuple_getitem ?_ (PyProof.Rows.args_tuple_getitem _ _)))
 show wpAny _ _ (Builtin.Tuple.tupleItemsOf (.ref t) >>= _) _ _ s;refine cu (PyProof.Rows.tupleItemsOf_ ht ?_);refine cu (wpAny_typeOf b ?_);rw[ah (by decide)]
 refine cu (HT.TK c p pu ?_);show wpAny _ _ (if (((HT.qf items.size 0 lo:Nat):Int)==0&&(1:Int)==1&&(HT.qf items.size items.size i-HT.qf items.size 0 lo)==items.size)=true then _ else _) _ _ s;rw[ah (by rw[hw.1,hw.2];simp)]
 unfold Builtin.Tuple.tupleIsExact;refine cu (cu (wpAny_typeOf ht.typeIs (cw ?_)));rw[ah (by decide)]
 refine cu (wpAny_rule ?_)
 first
  |exact cw ⟨_,rfl,cw h⟩
  |exact cu (cw (cw ⟨_,rfl,cw h⟩))
end
section
variable {a:Expr}{lo hi:Option Expr}{K:Frag}
def M1 (K:Frag):V->Option Int->Option Int->Hp->VK->Prop:=λx lo h H Q=>∃a xs,x=.ref a/\qw K H a xs/\
 ((HT.qf xs.length 0 lo=0/\HT.qf xs.length xs.length h=xs.length)->Q (.ref a) H)/\
 (¬(HT.qf xs.length 0 lo=0/\HT.qf xs.length xs.length h=xs.length)->∀p,H p=none->Q (.ref p) (upd H p (.tup (gN xs lo h))))
def Be:KG X (M1 X.K):=by
 intro pins s σ H x v l u lo e S Q I b d p pu h;obtain⟨a,xs,rfl,c,f,q⟩:=h
 by_cases hw:HT.qf xs.length 0 lo=0/\HT.qf xs.length xs.length e=xs.length
 ·cases b
  obtain⟨i,r,ht,z⟩:=I.tuple c;have hlen:i.toArray.size=xs.length:=by rw[aA];exact r.length.symm
  exact⟨"tuple",_,PyProof.Rows.slot_tuple_getitem.lookup,ht.typeIs,LQ ht d p pu (by rw[hlen];exact hw) ⟨.ref a,H,I,rfl,f hw⟩⟩
 ·exact dV pins s σ H _ v l u lo e S Q I b d p pu ⟨a,xs,rfl,c,hw,q hw⟩
abbrev Po:=En->Hx->R (cf)
noncomputable def we:Po:=λ_ A=>.ok none A
noncomputable def wc (m:Ev):Po:=λρ A=>(m ρ A).bind λw A1=>match w with
 |.int i=>.ok (some i) A1|_=>.bad
noncomputable def w8 (ws:List W)(lo h:cf):List W:=(ws.drop (HT.qf ws.length 0 lo)).take (HT.qf ws.length ws.length h-HT.qf ws.length 0 lo)
inductive MP (K:Frag)(xr:XR)(p:Po)(σ:St)(H:Hp)(Q:Option Int->Hp->Prop):Prop
 |mk (φ:b5) (A:Hx) (ρ:En) (S:zL K φ A H) (re:RE K φ H ρ σ) (h:(p ρ A).post (λo A1=>∀φ1 H1,Le K φ H φ1 H1->zL K φ1 A1 H1->Q o H1) (EB K φ H xr))
noncomputable def tP (K:Frag)(x:XR)(p:Po):TO:=λσ H Q=>MP K x p σ H Q
def SP (X:Cx)(x:XR)(e:Option Expr)(p:Po):Prop:=PO X e (tP X.K x p)
def PO.imp {e:Option Expr}{t t':TO}(h:PO X e t)(i:∀σ H Q,t' σ H Q->t σ H Q):PO X e t':=λpins s σ H Q I hw=>h pins s σ H Q I (i σ H Q hw)
end
section
variable {K:Frag}
def Mm:Qx:=λo i v H Q=>∃a kvs k,o=.ref a/\i=kV k/\H a=some (.dK kvs)/\kvs.length<sizeLine/\Q (upd H a (.dK (putK kvs k v)))
def set_dict {k:Nat}(b:jx k X.A):Kl X Mm:=by
 intro pins s σ H o i v e f u Q I ro ri r h;obtain⟨a,kvs,key,rfl,rfl,c,l,q⟩:=h;cases ro;exact EM (Mq b) I (Gw.k c l) ri r λS d=>⟨_,d,q⟩
noncomputable def kM (kvs:List (Key×W))(k:Key)(v:W):List (Key×W):=
 if (kvs.any λK=>decide (K.1=k))=true then kvs.map (λK=>if K.1=k then(K.1,v) else K) else kvs++[(k,v)]
def Zi:W->W->W->Hx->R Unit:=λd k v A=>match d,QB k with
 |.ref n,some k=>match A[n]? with
  |some (.dct kvs)=>if kvs.length<zQ then .ok () (A.set n (.dct (kM kvs k v))) else .bad|_=>.bad
 |_,_=>.bad
def BW:∀o i v A,qJ (Zi o i v A):=λo i v A=>by
 unfold Zi
 split
 ·split
  ·exact wX jy qA
  ·exact qA
 ·exact qA
theorem OX (k:Key):∀{kvs:List (Key×W)}{us:List (Key×V)},us.map (·.1)=kvs.map (·.1)->(us.any λK=>decide (K.1=k))=(kvs.any λK=>decide (K.1=k))
 |[],[],_=>rfl|[],_::_,h=>by simp at h|_::_,[],h=>by simp at h|a::kvs,b::us,h=>by
  simp only[aF,List.cons.injEq]at h;rw[bN,bN,OX k h.2,h.1]
theorem PN (k:Key){w:W}(q:RV K φ H w v):∀{kvs:List (Key×W)}{us:List (Key×V)},us.map (·.1)=kvs.map (·.1)->zu K φ H (kvs.map (·.2)) (us.map (·.2))->
  (us.map (λc=>if c.1=k then(c.1,v) else c)).map (·.1)=(kvs.map (λc=>if c.1=k then(c.1,w) else c)).map (·.1)/\zu K φ H ((kvs.map (λc=>if c.1=k then(c.1,w) else c)).map (·.2)) ((us.map (λc=>if c.1=k then(c.1,v) else c)).map (·.2))
 |[],[],_,r=>⟨rfl,r⟩|[],_::_,h,_=>by simp at h|_::_,[],h,_=>by simp at h|a::kvs,b::us,h,r=>by
  simp only[aF,List.cons.injEq]at h;obtain⟨j,l,e,g,f⟩:=r;simp only[aF,List.cons.injEq]at e;obtain⟨rfl,rfl⟩:=e;obtain⟨I,i⟩:=PN k q h.2 f;simp only[aF];rw[I,h.1]
  by_cases d:a.1=k
  ·rw[ah d,ah d]
   exact⟨rfl,⟨v,_,rfl,q,i⟩⟩
  ·rw[aj d,aj d]
   exact⟨by rw[h.1],⟨b.2,_,rfl,g,i⟩⟩
def DV:Ur K Mm Zi:=λφ A H o i v c w wv Q S j g q p=>by
 unfold Zi at p;cases c with
 |ref n=>cases w with
  |int k=>
   obtain rfl:=g;dsimp only[QB]at p;cases e:A[n]? with
   |none=>rw[e]at p;exact p.elim|some m=>cases m with
    |dct kvs=>
     rw[e]at p;dsimp only at p;obtain⟨l,us,rfl,f1,g1,g2,g3⟩:=S.dct j e;have hlen:us.length=kvs.length:=by have:=congrArg List.length g2;simpa using this
     by_cases b:kvs.length<zQ
     ·rw[ah b]at p
      have ln:Le K φ H φ (upd H l (.dK (putK us (.inl k) v))):=Le.upd f1 (λxs z=>by rw[g1]at z;cases z) (λ_ _ z=>by rw[g1]at z;cases z)
      have h:(putK us (.inl k) v).map (·.1)=(kM kvs (.inl k) wv).map (·.1)/\zu K φ (upd H l (.dK (putK us (.inl k) v))) ((kM kvs (.inl k) wv).map (·.2)) ((putK us (.inl k) v).map (·.2)):=by
       generalize upd H l (.dK (putK us (.inl k) v))=H' at ln;unfold putK kM;rw[OX (.inl k) g2]
       by_cases a:(kvs.any λr=>decide (r.1=(.inl k:Key)))=true
       ·rw[ah a,ah a]
        exact PN (.inl k) (q.mono ln) g2 (g3.mono ln)
       ·rw[aj a,aj a]
        refine⟨by simp[g2],?_⟩
        rw[aQ,aQ];exact(g3.mono ln).append (.one (q.mono ln))
      obtain⟨f,d⟩:=S.write (o:=.dct kvs) (o':=.dct (kM kvs (.inl k) wv)) e rfl rfl f1 (u:=.dK (putK us (.inl k) v)) ⟨_,jO,h.1,h.2⟩;exact⟨l,us,.inl k,rfl,rfl,g1,by rw[hlen,sizeLine_eq];unfold zQ at b;omega,p _ _ f d⟩
     ·rw[aj b]at p;exact p.elim
    |_=>rw[e]at p;exact p.elim
  |_=>exact p.elim
 |_=>cases w<;>exact p.elim
end
noncomputable def Gf (_ j:Int):Bool:=decide (0<j)&&decide (j<1152921504606846976)
def Mg (i j:Int):Prop:=0<j/\j<1152921504606846976
def DY (i j:Int)(h:Gf i j=true):Mg i j:=by
 unfold Gf at h;rw[ak]at h;exact⟨of_decide_eq_true h.1,of_decide_eq_true h.2⟩
def DM:qG X (binaryOp .FloorDiv) (rI Mg λi j=>.int (i/j)):=GH λi j _ _ _ _ _ h q=>by
 have a:(0:Int)<j:=h.1;have H:j<1152921504606846976:=h.2;refine floordiv_int (by omega) (by rw[Int.fdiv_eq_ediv_of_nonneg i (by omega)];exact q) (.inl (PyProof.noPylong_of_log2 ?_))
 have h0:j.natAbs≠0:=by omega
 have:j.natAbs.log2<60:=(Nat.log2_lt h0).mpr (by omega)
 omega
def Zk:=ZZ Gf λi j=>.int (i/j)
section
variable {K:Frag}
def Np (K:Frag):R2:=λx y H Q=>∃φ A u v d ds,zL K φ A H/\RV K φ H u x/\RV K φ H v y/\qc A 8 u=some d/\qc A 8 v=some (.list ds)/\Q (.bl (!(ds.any λz=>PyData.eqv z d))) H
def Dk (j:X.A.units+64<cLine):qG X (compareOp .NotIn) (Np X.K):=by
 intro pins s σ H x y v u Q I b r h;obtain⟨φ,A,w,a,d,ds,S,f,c,E,e,q⟩:=h;obtain⟨as,i⟩:=Qe I S 8 w x v d f b E;obtain⟨bs,g⟩:=Qe I S 8 a y u _ c r e;obtain⟨g1,g2⟩:=Wl 8 w d E;obtain⟨g3,l⟩:=PX e;exact SeqAt.notIn_list_reads g i g3 g1 (by omega) ⟨.bl _,H,I,rfl,q⟩
def j0:W->W->Hx->R W:=λx y A=>match qc A 8 x,qc A 8 y with
 |some d,some (.list ds)=>.ok (.bl (!(ds.any λz=>PyData.eqv z d))) A|_,_=>.bad
def ES:∀x y A,qJ (j0 x y A):=λx y A=>by
 unfold j0
 split
 ·exact jy
 ·exact qA
def FG:jY K (Np K) j0:=λφ A H x y u v Q S a q p=>by
 unfold j0 at p;cases e:qc A 8 u with
 |none=>rw[e]at p;exact p.elim|some d=>
  cases E:qc A 8 v with
  |none=>rw[e,E]at p;exact p.elim|some D=>
   rw[e,E]at p;cases D with
   |list ds=>exact⟨φ,A,u,v,d,ds,S,a,q,e,E,p φ H _ .refl S rfl⟩|_=>exact p.elim
def JO {k:Nat}(h:jx k X.A):Km X .NotIn j0:=⟨_,Dk h.units,ES,FG⟩
end
end Mi
namespace PySem.SeqAt
open PySem
end PySem.SeqAt
namespace Mi
open PySem PySem.Spec PyProof.Rows L2
section
variable {prog:Program}{A:Around}{lo hi:Int}{t u v:Tok}
def Ia {R:Result->Shared->Prop}(j:A.handled=none)(g:IsRange s.heap a lo hi 1 t u v)(h:Builtin.Range.small lo hi 1=true)(H:Builtin.Range.rangeSize lo hi 1=(n:Int))(hn:n<=2 ^ 24)
  (m:∀(h':Heap)(tk:Nat)(acc:Array Value)(c:Nat),(∀b o,s.heap.get? b=some o->h'.get? b=some o)->h'.get? s.heap.objs.size=some { cls:=.type "list",data:=.seq acc c }->ItemsOf (λi v=>∃t,v=Value.int (lo+(i:Int) * 1) t) acc n->R (.ok (.ret (.ref s.heap.objs.size))) { s with heap:=h',toks:=tk }):
  codeAny (model prog w) A (.builtin "proto.collect" ⟨[.ref a],[]⟩) R s:=by
 refine codeAny_builtin PySem.F.entry_proto_collect ?_;rw[Around.under_plainId PySem.F.plain_proto_collect _];show wpAny _ A.in1 (newList [] >>= λl=>again (.builtin "list.__iadd__" ⟨[l,.ref a],[]⟩)) _ _ s;refine cu (wpAny_newObj_type ?_);refine cw ⟨plainId_quiet plain_list_iadd _,codeAny_builtin PySem.F.entry_list_iadd ?_⟩;rw[Around.under_plainId plain_list_iadd _];show wpAny _ A.in1 (Builtin.List.listExtendWith (.ref s.heap.objs.size) (.ref a) (.ref s.heap.objs.size)) _ _ _;exact wpAny_extend_range (R:=R) (s:={ s with heap:=s.heap.push { cls:=.type "list",data:=.seq ([]:b4).toArray } }) j (ae _ g) h H hn s.heap.objs.size _ 0 (au _ rfl) λh' tk d C keep f items=>
  m h' tk d C (λb o e=>keep b o (aM (aH e)) (ae _ e)) f items
def Ip {Q1:cb}(f:A.handled=none)(e:IsRange s.heap a lo hi 1 t u v)(H:Builtin.Range.small lo hi 1=true)(d:Builtin.Range.rangeSize lo hi 1=(n:Int))(hn:n<=2 ^ 24)
  (h:∀(h':Heap)(tk:Nat)(acc:Array Value),(∀b o,s.heap.get? b=some o->h'.get? b=some o)->ItemsOf (λi v=>∃t,v=Value.int (lo+(i:Int) * 1) t) acc n->Q1 (.ref h'.objs.size) { s with heap:=h'.push { cls:=.type "tuple",data:=.seq acc },toks:=tk }):
  codeAny (model prog w) A (.call (.builtin "tuple.__new__") ⟨[.type "tuple",.ref a],[]⟩) (wants Q1 E) s:=by
 refine codeAny_of_tree ?_;show wpAny _ A.in1 (do checkBuiltinCall "tuple.__new__" ⟨[.type "tuple",.ref a],[]⟩;again (.builtin "tuple.__new__" ⟨[.type "tuple",.ref a],[]⟩)) _ _ s
 refine cu (wpAny_of_eq (F.newCall_tuple_1 (.ref a)) (cw ⟨plainId_quiet F.plain_tuple_new _,codeAny_builtin F.entry_tuple_new ?_⟩));rw[Around.under_plainId F.plain_tuple_new _];unfold Builtin.«tuple.__new__»;have a1:=F.called_tuple.made;have a2:=F.called_tuple.sub;have j:=F.called_tuple.canCreate;have g:=F.slot_tuple_init.lookup;have hT:s.TypeIs (.ref a) "range":=⟨_,e,rfl⟩;dsimp only
 wp_walk
 refine Ia (by simp[f]) e H d hn λh' tk acc c keep S items=>?_
 show wpAny _ A.in1 (load s.heap.objs.size >>= _) _ _ _;refine cu (wpAny_load S ?_);have z:sizeOk (.seq acc):=by
  show acc.size<=sizeLine;rw[items.1,sizeLine_eq];omega
 show wpAny _ A.in1 (pure acc.toList) _ _ _;refine cw (cu (cw ?_));rw[Array.toArray_toList];refine cu (m:=Builtin.Tuple.tupleExact _) (wpAny_newObj_type ?_ z);exact cw (h h' tk acc keep items)
def Iv {self b:Value}{Q:Unit->Shared->Prop}(T:s.TypeIs self "tuple")(h:Q () s):wpAny M A (checkBuiltinCall "object.__init__" ⟨[self,b],[]⟩) Q E s:=by
 have d:builtinKind "object.__init__"=some .slot:=by decide +kernel
 have c:splitId "object.__init__"=some ("object","__init__"):=by decide +kernel
 have a:=F.args_object_init_2 self b;unfold argsOk at a;unfold checkBuiltinCall;rw[d,c];dsimp only;refine cu (wpAny_isInstance (b:=true) T (by rw[isSubtype_type];kernel_rfl) ?_)
 cases H:Manifest.signature? "object.__init__" with
 |none=>exact cw h|some sig=>
  rw[H]at a;exact wpAny_of_eq a h
def IA (l:A.handled=none)(j:IsRange s.heap a lo hi 1 t u v)(H:Builtin.Range.small lo hi 1=true)(d:Builtin.Range.rangeSize lo hi 1=(n:Int))(hn:n<=2 ^ 24)
  (h:∀(h':Heap)(tk:Nat)(acc:Array Value),(∀b o,s.heap.get? b=some o->h'.get? b=some o)->ItemsOf (λi v=>∃t,v=Value.int (lo+(i:Int) * 1) t) acc n->Q (.ref h'.objs.size) { s with heap:=h'.push { cls:=.type "tuple",data:=.seq acc },toks:=tk }):
  wpAny (model prog w) A (call (.type "tuple") [.ref a]) Q E s:=by
 obtain⟨c,p,g⟩:=F.called_tuple.mro;have a1:=F.called_tuple.made;have a2:=F.called_tuple.sub;have z:=F.called_tuple.notType;have y:=F.called_tuple.canCreate;have x:=F.typeCall_tuple_1 (.ref a);refine wpAny_call (codeAny_of_tree ?_);show wpAny _ _ (callAny (.type "tuple") _) _ _ _;refine cw ⟨Code.quiet_builtin _ (by decide +kernel),codeAny_builtin F.entry_type_call ?_⟩
 rw[Around.under_plain (weight_type_call_type "tuple" [.ref a] []) rfl]
 repeat (any_goals (first|assumption|wp_step))
 refine codeAny_mono (Ip (E:=E) (Q1:=λu s1=>∃h' tk acc,u=.ref h'.objs.size/\s1={ s with heap:=h'.push { cls:=.type "tuple",data:=.seq acc },toks:=tk }/\(∀b o,s.heap.get? b=some o->h'.get? b=some o)/\ItemsOf (λi v=>∃t,v=Value.int (lo+(i:Int) * 1) t) acc n) (by simp[l]) j H d hn λh' tk acc k i=>⟨h',tk,acc,rfl,rfl,k,i⟩) λr s1 f=>?_
 cases r with
 |error e=>exact f|ok m=>
  cases m with
  |ret u=>
   obtain⟨h',tk,acc,rfl,rfl,keep,items⟩:=f;have T:Shared.TypeIs { s with heap:=h'.push { cls:=.type "tuple",data:=.seq acc },toks:=tk } (.ref h'.objs.size) "tuple":=⟨_,au _ rfl,rfl⟩
   have q:=F.called_tuple.init.lookup;have B:=F.called_tuple.init.bind (.ref h'.objs.size)
   repeat (any_goals (first|assumption|wp_step))
   refine codeAny_call_builtin F.called_tuple.init.plain F.entry_object_init (Iv T ?_);show wpAny _ _ (Builtin.«object.__init__» ⟨[.ref h'.objs.size,.ref a],[]⟩) _ _ _;unfold Builtin.«object.__init__»
   wp_walk
   exact h h' tk acc keep items
  |_=>exact f.elim
end
section
variable {b:Expr}{ma mb:Ev}
def RK (D:X.calm=true):jN X (.type "tuple") (λxs H Q=>∃(r:Addr) (i j:Int),xs=[.ref r]/\H r=some (.rng i j)/\(-(2 ^ 62)<=i/\i<2 ^ 62)/\(-(2 ^ 62)<=j/\j<2 ^ 62)/\(j-i).toNat<=sizeLine/\∀l,H l=none->Q (.ref l) (upd H l (.tup (kC i (j-i).toNat)))):=by
 intro pins s σ H xs us Q I r h;obtain⟨p,i,j,rfl,B,⟨a1,a2⟩,⟨J,E⟩,A,q⟩:=h;obtain⟨u,rfl,y⟩:=vals1 r;cases y;obtain⟨t1,T,t3,C⟩:=I.hok p _ B;have L:sizeLine=16777216:=sizeLine_eq;refine IA (n:=(j-i).toNat) (I.ok.hd D) (show IsRange s.heap p i j 1 t1 T t3 from C) (small_one (by omega) (by omega) J E) (by rw[rangeSize_one];split<;>omega) (by omega) λh' tk acc K ⟨hn,f⟩=>?_
 have w:Inv X pins σ H { s with heap:=h',toks:=tk }:=I.kept (t':=tk) K
 refine⟨.ref h'.objs.size,_,w.laid (t':=tk) (o:=.tup (kC i (j-i).toNat)) (λb o e=>ae _ e) (ao _) ?_,rfl,q _ (w.hok.fresh (ao _))⟩;refine⟨by unfold kC;simpa using A,acc.toList,?_,by simpa using ZI.new h' acc⟩
 have a:∀(l:b4)(k:Nat),(∀(m:Nat) v,l[m]? =some v->∃t,v=.int (i+((k+m:Nat):Int)) t)->Vals ((List.range' k l.length).map λ(m:Nat)=>V.int (i+(m:Int))) l:=by
  intro l
  induction l with
  |nil=>intro k _;exact .nil|cons v l z=>
   intro k g;rw[aN,bK,aF];refine .cons ?_ (z (k+1) λm x a=>?_)
   ·obtain⟨t,rfl⟩:=g 0 v rfl
    exact⟨t,rfl⟩
   ·obtain⟨t,rfl⟩:=g (m+1) x (by simpa using a)
    exact⟨t,by first|rfl|(congr 1<;>omega)|(simp;omega)⟩
 have c:acc.toList.length=(j-i).toNat:=by simpa using hn
 have:=a acc.toList 0 λm v d=>by
  obtain⟨t,rfl⟩:=f m v (by simpa using d)
  exact⟨t,by first|rfl|(congr 1<;>omega)|(simp;omega)⟩
 rw[c]at this;unfold kC;rw[bC];exact this
def J2 (ma mb:Ev):Ev:=λρ A=>(ma ρ A).bind λx A1=>(mb ρ A1).bind λy A2=>match x,y with
 |.int i,.int j=>if je i&&(je j&&decide ((j-i).toNat<=zQ)) then .ok (.tup ((List.range (j-i).toNat).map λ(k:Nat)=>W.int (i+k))) A2 else .bad|_,_=>.bad
def ER (d:X.calm=true):jN X (.type "tuple") (λxs H Q=>∃(r:Addr) (j:Int),xs=[.ref r]/\H r=some (.rng 0 j)/\(-(2 ^ 62)<=j/\j<2 ^ 62)/\j.toNat<=sizeLine/\∀l,H l=none->Q (.ref l) (upd H l (.tup (wI j.toNat)))):=by
 intro pins s σ H xs us Q I r h;obtain⟨p,j,rfl,a,c,z,q⟩:=h;refine RK d pins s σ H _ us Q I r ⟨p,0,j,rfl,a,⟨by decide,by decide⟩,c,by rw[Int.sub_zero];exact z,λl b=>?_⟩
 have e:kC 0 (j-0).toNat=wI j.toNat:=by
  unfold kC wI;rw[Int.sub_zero];exact aL λi _=>by rw[Int.zero_add]
 rw[e];exact q l b
def JX (m:Ev):Ev:=λρ A=>(m ρ A).bind λw A1=>match w with
 |.int j=>if je j&&decide (j.toNat<=zQ) then .ok (.tup ((List.range j.toNat).map λ(i:Nat)=>W.int i)) A1 else .bad|_=>.bad
end
open PySem.W (KasT kas_rev kas_asc kas_desc kas_tail3 kas_descPart kas_count kas_place kas_bin kas_sort)
noncomputable def TW (n:Nat)(c:Nat->Nat->Bool):KasT α->(α->Prop)->Prop
 |.ret a,Q=>Q a|.ask i j k,Q=>i<n/\j<n/\TW n c (k (c i j)) Q
theorem TW.bind {β:Type}{c:Nat->Nat->Bool}{f:α->KasT β}{Q:β->Prop}:∀(t:KasT α),TW n c t (λa=>TW n c (f a) Q)->TW n c (t.bind f) Q
 |.ret _,h=>h|.ask i j k,h=>⟨h.1,h.2.1,TW.bind (k (c i j)) h.2.2⟩
theorem TW.wp {c:Nat->Nat->Bool}{cmp:Nat->Nat->(Bool->Shared->Prop)->Shared->Prop}{G:α->Shared->Prop}(H:∀i j C,i<n->j<n->C (c i j) s->cmp i j C s):
  ∀(t:KasT α),TW n c t (λa=>G a s)->t.kasWp cmp G s
 |.ret _,h=>h|.ask i j k,h=>H i j _ h.1 h.2.1 (TW.wp H (k (c i j)) h.2.2)
section
variable {O:KeyOrd}{key:Nat->O.α}
noncomputable def gk (key:Nat->O.α)(p:Array Nat)(i:Nat):O.α:=key (p.getD i 0)
noncomputable abbrev kc (key:Nat->O.α)(i j:Nat):Bool:=O.blt (key i) (key j)
def kP (key:Nat->O.α)(p:Array Nat)(m:Nat):Prop:=∀i j,i<=j->j<m->O.kle (gk key p i) (gk key p j)
def wL (key:Nat->O.α)(p:Array Nat)(m:Nat):Prop:=∀i j,i<=j->j<m->O.kle (gk key p j) (gk key p i)
structure yd (n:Nat)(p:Array Nat):Prop where
 pm:p.Perm (List.range n).toArray
theorem yd.size {p:Array Nat}(h:yd n p):p.size=n:=by rw[h.pm.size_eq];simp
def yd.lt {p:Array Nat}(h:yd n p)(hn:0<n)(i:Nat):p.getD i 0<n:=by
 by_cases hi:i<p.size
 ·have e:p.getD i 0=p[i]:=by simp[Array.getD,hi]
  have m:p[i]∈p.toList:=Array.mem_toList_iff.mpr (Array.getElem_mem hi)
  have:=(Array.perm_iff_toList_perm.mp h.pm).mem_iff.mp m
  rw[e];simpa using this
 ·have e:p.getD i 0=0:=by simp[Array.getD,hi]
  rw[e];exact hn
def yd.rev {p:Array Nat}(h:yd n p)(i j:Nat):yd n (kas_rev p i j):=⟨(mirror_perm _ _ _ _).trans h.pm⟩
def yd.bub {p:Array Nat}(h:yd n p)(i j:Nat):yd n (bubble p i j):=⟨(bubble_perm _ _ _).trans h.pm⟩
def YM {p q:Array Nat}{j:Nat}(h:p[i]? =q[j]?):gk key p i=gk key q j:=by
 unfold gk;rw[Array.getD_eq_getD_getElem?,Array.getD_eq_getD_getElem?,h]
def VH {p:Array Nat}{j:Nat}(h:j<=p.size)(k:Nat):gk key (kas_rev p i j) k=if i<=k/\k<j then gk key p (i+j-1-k) else gk key p k:=by
 have e:=getElem?_mirror_all (xs:=p) (i:=i) h k
 by_cases c:i<=k/\k<j
 ·rw[ah c]at e
  rw[ah c];exact YM e
 ·rw[aj c]at e
  rw[aj c];exact YM e
def XA {p:Array Nat}{j:Nat}(H:j<=p.size)(h:∀k,i<=k->k<j->gk key p k=gk key p (j-1))(k:Nat):gk key (kas_rev p i j) k=gk key p k:=by
 rw[VH H]
 by_cases c:i<=k/\k<j
 ·rw[ah c,h k c.1 c.2]
  exact h _ (by omega) (by omega)
 ·rw[aj c]
def NF {p:Array Nat}{a d:Nat}(h:a<p.size)(hd:d<=a)(k:Nat):gk key (bubble p a d) k=if k=a-d then gk key p a else if a-d<k/\k<=a then gk key p (k-1) else gk key p k:=by
 have e:=getElem?_bubble h d hd k
 by_cases c:k=a-d
 ·rw[ah c]at e
  rw[ah c];exact YM e
 ·rw[aj c]at e
  rw[aj c]
  by_cases c2:a-d<k/\k<=a
  ·rw[ah c2]at e
   rw[ah c2];exact YM e
  ·rw[aj c2]at e
   rw[aj c2];exact YM e
def kP.one {p:Array Nat}:kP key p 1:=λi j H h=>by
 obtain rfl:i=0:=by omega
 obtain rfl:j=0:=by omega
 exact KeyOrd.kle_refl _
def kP.more {p:Array Nat}{m:Nat}(h:kP key p m)(hm:1<=m)(H:O.kle (gk key p (m-1)) (gk key p m)):kP key p (m+1):=λi j a b=>by
 rcases lt_or_ge j m with c|c
 ·exact h i j a c
 ·obtain rfl:j=m:=by omega
  rcases lt_or_ge i j with C|C
  ·exact KeyOrd.kle_trans (h i (j-1) (by omega) (by omega)) H
  ·obtain rfl:i=j:=by omega
   exact KeyOrd.kle_refl _
def wL.more {p:Array Nat}{m:Nat}(h:wL key p m)(hm:1<=m)(H:O.kle (gk key p m) (gk key p (m-1))):wL key p (m+1):=λi j a b=>by
 rcases lt_or_ge j m with c|c
 ·exact h i j a c
 ·obtain rfl:j=m:=by omega
  rcases lt_or_ge i j with C|C
  ·exact KeyOrd.kle_trans H (h i (j-1) (by omega) (by omega))
  ·obtain rfl:i=j:=by omega
   exact KeyOrd.kle_refl _
def wL.same {p q:Array Nat}{m:Nat}(h:wL key p m)(e:∀k,gk key q k=gk key p k):wL key q m:=λi j a H=>by
 rw[e,e];exact h i j a H
theorem Uo {p:Array Nat}(P:yd n p)(hn:0<n):∀(f a:Nat){Q:Nat->Prop},1<=a->kP key p a->(∀m,a<=m->m<=a+f->kP key p m->m=a+f∨O.klt (gk key p m) (gk key p (m-1))->Q m)->TW n (kc key) (kas_asc p f a) Q
 |0,a,Q,_,H,h=>h a (ao _) (ao _) H (.inl rfl)|f+1,a,Q,h1,H,h=>by
  refine⟨P.lt hn _,P.lt hn _,?_⟩;cases e:kc key (p.getD a 0) (p.getD (a-1) 0) with
  |true=>exact h a (ao _) (by omega) H (.inr e)|false=>exact Uo P hn f (a+1) (by omega) (H.more h1 e) λm d c b o=>h m (by omega) (by omega) b (by rcases o with o|o;exact .inl (by omega);exact .inr o)
theorem WX (hn:0<n):∀(f:Nat)(p:Array Nat)(a q:Nat){Q:Array Nat×Nat×Nat->Prop},yd n p->q+1<=a->a+f<=n->wL key p a->(∀k,a-(q+1)<=k->k<a->gk key p k=gk key p (a-1))->
  (∀b m d,yd n b->a<=m->m<=a+f->wL key b m->d+1<=m->(∀k,m-(d+1)<=k->k<m->gk key b k=gk key b (m-1))->Q (b,m,d))->TW n (kc key) (kas_desc f p a q) Q
 |0,p,a,q,Q,P,g,o,H,he,h=>h p a q P (ao _) (ao _) H g he|f+1,p,a,q,Q,P,g,o,H,he,h=>by
  refine⟨P.lt hn _,P.lt hn _,?_⟩;have one:∀r:Array Nat,∀k,a+1-(0+1)<=k->k<a+1->gk key r k=gk key r (a+1-1):=λr k x y=>by
   obtain rfl:k=a:=by omega
   rfl
  have up:∀b m d,yd n b->a+1<=m->m<=a+1+f->wL key b m->d+1<=m->(∀k,m-(d+1)<=k->k<m->gk key b k=gk key b (m-1))->Q (b,m,d):=λb m d a1 a2 v u t A=>h b m d a1 (by omega) (by omega) u t A
  cases e:kc key (p.getD a 0) (p.getD (a-1) 0) with
  |true=>
   show TW n (kc key) (if q > 0 then _ else _) Q;have lt:O.kle (gk key p a) (gk key p (a-1)):=KeyOrd.kle_of_klt e
   by_cases l:q > 0
   ·rw[ah l]
    have E:=XA (key:=key) (p:=p) (i:=a-(q+1)) (j:=a) (by rw[P.size];omega) he
    exact WX hn f _ (a+1) 0 (P.rev _ _) (by omega) (by omega) ((H.more (by omega) lt).same E) (one _) up
   ·rw[aj l]
    exact WX hn f _ (a+1) 0 P (by omega) (by omega) (H.more (by omega) lt) (one _) up
  |false=>
   refine⟨P.lt hn _,P.lt hn _,?_⟩;cases s:kc key (p.getD (a-1) 0) (p.getD a 0) with
   |true=>exact h p a q P (ao _) (by omega) H g he|false=>
    have eq:gk key p a=gk key p (a-1):=KeyOrd.kle_antisymm (show O.kle (gk key p a) (gk key p (a-1)) from s) (show O.kle (gk key p (a-1)) (gk key p a) from e)
    refine WX hn f p (a+1) (q+1) P (by omega) (by omega) (H.more (by omega) (by rw[eq];exact KeyOrd.kle_refl _)) (λk x y=>?_) up
    show gk key p k=gk key p a;rcases lt_or_ge k a with c|c
    ·rw[eq];exact he k (by omega) c
    ·obtain rfl:k=a:=by omega
     rfl
def NH {p:Array Nat}{a r:Nat}{Q:Nat×Array Nat->Prop}(hn:0<n)(P:yd n p)(c:1<=a)(e:a<=r)(d:r<=n)(s:wL key p a)(h:∀m b,yd n b->1<=m->m<=r->kP key b m->Q (m,b)):TW n (kc key) (kas_tail3 a r p) Q:=by
 refine TW.bind _ (Uo (P.rev _ _) hn _ _ c (λi j x y=>?_) λm x y H _=>h m _ (P.rev _ _) (by omega) (by omega) H)
 have z:a<=p.size:=by rw[P.size];omega
 rw[VH z,VH z,ah (by omega),ah (by omega)]
 exact s _ _ (by omega) (by omega)
def N3 {p:Array Nat}{a r:Nat}{Q:Nat×Array Nat->Prop}(hn:0<n)(P:yd n p)(g:a+1<=r)(e:r<=n)(s:wL key p (a+1))(h:∀m b,yd n b->1<=m->m<=r->kP key b m->Q (m,b)):TW n (kc key) (kas_descPart a r p) Q:=by
 refine TW.bind _ (WX hn _ _ _ _ P (by omega) (by omega) s (λk x y=>?_) λb m q d x y H f he=>?_)
 ·obtain rfl:k=a:=by omega
  rfl
 ·show TW n (kc key) (if q > 0 then kas_tail3 m r (kas_rev b (m-(q+1)) m) else kas_tail3 m r b) Q
  by_cases c:q > 0
  ·rw[ah c]
   exact NH hn (d.rev _ _) (by omega) (by omega) e (H.same (XA (by rw[d.size];omega) he)) h
  ·rw[aj c]
   exact NH hn d (by omega) (by omega) e H h
def w_count {p:Array Nat}{r:Nat}{Q:Nat×Array Nat->Prop}(hn:0<n)(P:yd n p)(l:1<=r)(f:r<=n)(h:∀m d,yd n d->1<=m->m<=r->kP key d m->Q (m,d)):TW n (kc key) (kas_count r p) Q:=by
 refine TW.bind _ (Uo P hn _ _ (ao _) kP.one λm x y H o=>?_)
 by_cases c:m=r
 ·rw[ah (by simp[c])]
  exact h m p P x (by omega) H
 ·rw[aj (by simp[c])]
  have lt:O.klt (gk key p m) (gk key p (m-1)):=o.resolve_left (by omega)
  by_cases c2:m > 1
  ·rw[ah c2]
   refine⟨P.lt hn _,P.lt hn _,?_⟩;cases e:kc key (p.getD 0 0) (p.getD (m-1) 0) with
   |true=>exact h m p P x (by omega) H|false=>
    have all:∀k,0<=k->k<m->gk key p k=gk key p (m-1):=λk _ g=>
     KeyOrd.kle_antisymm (H k (m-1) (by omega) (by omega)) (KeyOrd.kle_trans (show O.kle (gk key p (m-1)) (gk key p 0) from e) (H 0 k (by omega) g))
    have s:wL key p m:=λi j a b=>by
     rw[all i (by omega) (by omega),all j (by omega) b]
     exact KeyOrd.kle_refl _
    exact N3 hn (P.rev _ _) (by omega) f ((s.more x (KeyOrd.kle_of_klt lt)).same (XA (by rw[P.size];omega) all)) h
  ·rw[aj c2]
   obtain rfl:m=1:=by omega
   have s:wL key p 1:=λi j a b=>by
    obtain rfl:i=j:=by omega
    exact KeyOrd.kle_refl _
   exact N3 hn P (by omega) f (s.more x (KeyOrd.kle_of_klt lt)) h
theorem Vp {p:Array Nat}{k:Nat}(hn:0<n)(P:yd n p)(H:kP key p k):∀(f l r:Nat){Q:Nat->Prop},l<=r->r<=k->r-l<=f->(∀i,i<l->O.kle (gk key p i) (gk key p k))->(∀i,r<=i->i<k->O.klt (gk key p k) (gk key p i))->
  (∀m,m<=k->(∀i,i<m->O.kle (gk key p i) (gk key p k))->(∀i,m<=i->i<k->O.klt (gk key p k) (gk key p i))->Q m)->TW n (kc key) (kas_place p k f l r) Q
 |0,l,r,Q,o,g,j,lo,d,h=>h l (by omega) lo (λi a b=>d i (by omega) b)|f+1,l,r,Q,o,g,j,lo,d,h=>by
  show TW n (kc key) (if l ≥ r then _ else _) Q
  by_cases c:l ≥ r
  ·rw[ah c]
   exact h l (by omega) lo (λi a b=>d i (by omega) b)
  ·rw[aj c]
   refine⟨P.lt hn _,P.lt hn _,?_⟩;cases e:kc key (p.getD k 0) (p.getD ((l+r)/2) 0) with
   |true=>exact Vp hn P H f l ((l+r)/2) (by omega) (by omega) (by omega) lo (λi a b=>KeyOrd.klt_of_klt_of_kle e (H _ _ a b)) h|false=>exact Vp hn P H f ((l+r)/2+1) r (by omega) g (by omega) (λi a=>KeyOrd.kle_trans (H i ((l+r)/2) (by omega) (by omega)) e) d h
theorem Mt (hn:0<n):∀(f:Nat)(p:Array Nat)(k:Nat){Q:Array Nat->Prop},yd n p->k+f=n->kP key p k->(∀d,yd n d->kP key d n->Q d)->TW n (kc key) (kas_bin f p k) Q
 |0,p,k,Q,P,e,H,h=>h p P (by rw[<- e];exact H)|f+1,p,k,Q,P,e,H,h=>by
  refine TW.bind _ (Vp hn P H k 0 k (by omega) (by omega) (by omega) (λi a=>by omega) (λi a b=>by omega) λm hm lo l=>?_)
  refine Mt hn f _ (k+1) (P.bub _ _) (by omega) (λi j a b=>?_) h
  have z:k<p.size:=by rw[P.size];omega
  rw[NF z (by omega),NF z (by omega),show k-(k-m)=m by omega]
  by_cases ci:i=m
  ·rw[ah ci]
   by_cases c:j=m
   ·rw[ah c];exact KeyOrd.kle_refl _
   ·rw[aj c,ah (by omega)]
    exact KeyOrd.kle_of_klt (l _ (by omega) (by omega))
  ·rw[aj ci]
   by_cases c:j=m
   ·rw[ah c,aj (by omega)]
    exact lo i (by omega)
   ·rw[aj c]
    by_cases g:m<i/\i<=k
    ·rw[ah g,ah (by omega)]
     exact H _ _ (by omega) (by omega)
    ·rw[aj g]
     by_cases D:m<j/\j<=k
     ·rw[ah D]
      exact H _ _ (by omega) (by omega)
     ·rw[aj D]
      exact H _ _ a (by omega)
def fL {Q:Array Nat->Prop}(a:2<=n)(h:∀p,yd n p->kP key p n->Q p):TW n (kc key) (kas_sort n) Q:=by
 refine TW.bind _ (w_count (by omega) ⟨Array.Perm.refl _⟩ (by omega) (ao _) λm p P b hm H=>?_)
 show TW n (kc key) (if m<n then _ else _) Q
 by_cases c:m<n
 ·rw[ah c]
  show TW n (kc key) (kas_bin (n-max m 1) p (max m 1)) Q;rw[show max m 1=m by omega]
  exact Mt (by omega) _ _ _ P (by omega) H h
 ·rw[aj c]
  obtain rfl:m=n:=by omega
  exact h p P H
end
open PySem.W (KasT kas_sort kas_ask kat_run kat_snds kat_kind kat_lt kat_cons kat_nil kat_yes kat_no kat_one KatLex KatGo KatTups)
noncomputable def jQ  [DecidableEq α] (lt:α->α->Bool):List α->List α->Bool
 |[],[]=>false|[],_::_=>true|_::_,[]=>false|a::x,b::y=>if a=b then jQ lt x y else lt a b
section
variable (O:KeyOrd)[DecidableEq O.α]
theorem Ot:∀x:List O.α,jQ O.blt x x=false
 |[]=>rfl|a::x=>by unfold jQ;rw[ah rfl];exact Ot x
theorem O0:∀x y z:List O.α,jQ O.blt x y=true->jQ O.blt y z=true->jQ O.blt x z=true
 |[],[],_,h,_=>by cases h|[],_::_,[],_,h=>by cases h|[],_::_,_::_,_,_=>rfl|_::_,[],_,h,_=>by cases h|_::_,_::_,[],_,h=>by cases h|a::x,b::y,c::z,h1,H=>by
  unfold jQ at*
  by_cases f:a=b
  ·subst f
   rw[ah rfl]at h1
   by_cases E:a=c
   ·rw[ah E]at H ⊢
    exact O0 x y z h1 H
   ·rw[aj E]at H ⊢
    exact H
  ·rw[aj f]at h1
   by_cases E:b=c
   ·subst E
    rw[aj f];exact h1
   ·rw[aj E]at H
    have d:=O.trans a b c h1 H;rw[aj λe=>by rw[e,O.irrefl]at d;cases d]
    exact d
theorem OC:∀x y z:List O.α,jQ O.blt x z=true->jQ O.blt x y=true∨jQ O.blt y z=true
 |[],[],_,h=>.inr h|[],_::_,_,_=>.inl rfl|_::_,_,[],h=>by cases h|_::_,[],_::_,_=>.inr rfl|a::x,b::y,c::z,h=>by
  unfold jQ at*
  by_cases E:a=b
  ·subst E
   rw[ah rfl]
   by_cases e:a=c
   ·rw[ah e]at h ⊢
    exact OC x y z h
   ·rw[aj e]at h ⊢
    exact .inr h
  ·rw[aj E]
   by_cases e:a=c
   ·subst e
    rw[aj (Ne.symm E)];cases l:O.blt a b with
    |true=>exact .inl rfl|false=>
     cases m:O.blt b a with
     |true=>exact .inr rfl|false=>exact absurd (O.total a b l m) E
   ·rw[aj e]at h
    by_cases d:b=c
    ·subst d
     exact .inl h
    ·rw[aj d]
     exact O.negTrans a b c h
theorem P1:∀x y:List O.α,jQ O.blt x y=false->jQ O.blt y x=false->x=y
 |[],[],_,_=>rfl|[],_::_,h,_=>by cases h|_::_,[],_,h=>by cases h|a::x,b::y,h1,H=>by
  unfold jQ at*
  by_cases e:a=b
  ·subst e
   rw[ah rfl]at h1 H;rw[P1 x y h1 H]
  ·rw[aj e]at h1
   rw[aj (Ne.symm e)]at H;exact absurd (O.total a b h1 H) e
abbrev Lq:KeyOrd:=⟨List O.α,jQ O.blt,Ot O,O0 O,OC O,P1 O⟩
end
noncomputable abbrev IO:KeyOrd:=⟨Int,λa b=>decide (a<b),λa=>by simp,λa b c d H=>by simp only[af]at*;omega,λa b c h=>by simp only[af]at*;omega,λa b d H=>by simp only[decide_eq_false_iff_not]at*;omega⟩
abbrev gf:List Int->List Int->Bool:=jQ IO.blt
abbrev gi:KeyOrd:=Lq IO
section
variable {O:KeyOrd}
noncomputable def Yg (x:O.α):List O.α->List O.α
 |[]=>[x]|y::l=>if O.blt y x then y::Yg x l else x::y::l
def jz:List O.α->List O.α
 |[]=>[]|x::l=>Yg x (jz l)
theorem X0 (x:O.α):∀l,(Yg x l).Perm (x::l)
 |[]=>List.Perm.refl _|y::l=>by
  unfold Yg
  split
  ·exact((X0 x l).cons y).trans (List.Perm.swap x y l)
  ·exact List.Perm.refl _
theorem QT:∀l:List O.α,(jz l).Perm l
 |[]=>List.Perm.refl _|x::l=>(X0 x (jz l)).trans ((QT l).cons x)
theorem S9 (x:O.α):∀{l:List O.α},l.Pairwise O.kle->(Yg x l).Pairwise O.kle
 |[],_=>List.pairwise_singleton _ _|y::l,h=>by
  unfold Yg;cases c:O.blt y x with
  |true=>
   rw[ah rfl];refine List.pairwise_cons.mpr ⟨λz H=>?_,S9 x (List.pairwise_cons.mp h).2⟩;rcases cy.mp ((X0 x l).mem_iff.mp H) with rfl|H
   ·exact KeyOrd.kle_of_klt c
   ·exact(List.pairwise_cons.mp h).1 z H
  |false=>
   rw[aj (by simp)]
   refine List.pairwise_cons.mpr ⟨λz H=>?_,h⟩;rcases cy.mp H with rfl|H
   ·exact c
   ·exact KeyOrd.kle_trans c ((List.pairwise_cons.mp h).1 z H)
theorem XH:∀l:List O.α,(jz l).Pairwise O.kle
 |[]=>.nil|x::l=>S9 x (XH l)
theorem Nd:∀{a b:List O.α},a.Perm b->a.Pairwise O.kle->b.Pairwise O.kle->a=b
 |[],b,p,_,_=>by rw[List.nil_perm.mp p]|x::a,[],p,_,_=>absurd p.length_eq (by simp)|x::a,y::b,p,H,h=>by
  have d:x∈y::b:=p.mem_iff.mp (ay ..);have c:y∈x::a:=p.mem_iff.mpr (ay ..);have e:x=y:=by
   rcases cy.mp d with e|e
   ·exact e
   ·rcases cy.mp c with E|E
    ·exact E.symm
    ·exact O.total _ _ ((List.pairwise_cons.mp h).1 x e) ((List.pairwise_cons.mp H).1 y E)
  subst e;rw[Nd (List.Perm.cons_inv p) (List.pairwise_cons.mp H).2 (List.pairwise_cons.mp h).2]
theorem FF:∀{l:List O.α},l.length<2->l=jz l
 |[],_=>rfl|[_],_=>rfl|_::_::_,h=>absurd h (by simp)
end
abbrev ZN:List (b3)->List (b3):=jz (O:=gi)
abbrev fM (x y:b3):Prop:=gi.kle x y
def RH (l:b0):(ZN l).Perm l:=QT (O:=gi) l
def HK (l:b0):(ZN l).Pairwise fM:=XH (O:=gi) l
def Je {d:α}(l:List α):((List.range l.length).map λi=>l.getD i d)=l:=by
 refine bL (by simp) λi a b=>?_
 simp at a;simp[a]
def fN (vs:b4):(vs.toArray.zip vs.toArray).map (·.2)=vs.toArray:=by
 apply Array.toList_inj.mp
 rw[Array.toList_map];simp only[Array.toList_zip,List.toList_toArray];exact List.map_snd_zip (ao _)
section
variable {prog:Program}{A:Around}
def fO {b:Bool}{x y:Int}{t u:Tok}{Q:Bool->Shared->Prop}(h:Q (decide (x<y)) s):wpAny (model prog w) A (oneLt' b (.int x t) (.int y u)) Q E s:=by
 cases b with
 |true=>exact oneLt_int h|false=>exact kat_one _ _ (wpAny_lt_int h)
theorem NR {Q:Bool->Shared->Prop}{b:Bool}:∀{xs y:b4}{as bs:b3}{i:Nat},IntsAre xs as->IntsAre y bs->Q (gf as bs) s->KatLex prog w A b (decide (xs.length<y.length)) Q (xs.zip y) i s
 |_,_,_,_,_,.nil,.nil,h=>h|_,_,_,_,_,.nil,.cons _ _ _,h=>by
  refine kat_nil (s:=s) ?_;simpa[jQ] using h
 |_,_,_,_,_,.cons _ _ _,.nil,h=>by
  refine kat_nil (s:=s) ?_;simpa[jQ] using h
 |_,_,_,_,i,.cons (vs:=xs) a t d,.cons (vs:=y) c u r,h=>by
  refine kat_cons (wpAny_eqBool_int ?_);unfold gf jQ at h
  by_cases e:a=c
  ·subst e
   rw[ah rfl]at h;rw[bG];refine kat_yes ?_;show KatLex prog w A b (decide (xs.length+1<y.length+1)) Q (xs.zip y) (i+1) s;rw[show decide (xs.length+1<y.length+1)=decide (xs.length<y.length) by simp]
   exact NR d r h
  ·rw[aj e]at h
   rw[show(a==c)=false by simp[e]]
   exact kat_no (fO h)
def Jg (h:Heap)(v:Value)(k:b3):Prop:=∃(a:Addr) (o:Obj) (its:b4) (n:Nat),v=.ref a/\h.get? a=some o/\o.cls=.type "tuple" /\ o.data=.seq its.toArray n/\IntsAre its k
def Jg.keep {v:Value}{k:b3}(t:Jg h v k)(kp:∀b o,h.get? b=some o->h'.get? b=some o):Jg h' v k:=by
 obtain⟨a,o,i,n,e,f,d,c,H⟩:=t;exact⟨a,o,i,n,e,kp _ _ f,d,c,H⟩
def fP {x y:Value}{k:b3}{b:Bool}{Q:Bool->Shared->Prop}(f:Jg s.heap x k)(e:Jg s.heap y l)(h:Q (gf k l) s):wpAny (model prog w) A (keyLt' (tuples' b) x y) Q E s:=by
 obtain⟨a,o,I,n,rfl,m,_,j,g⟩:=f;obtain⟨p,o',its',N,rfl,d,_,c,H⟩:=e;refine kat_lt m j d c ?_
 have:=NR (prog:=prog) (w:=w) (A:=A) (b:=b) (i:=0) g H h
 simpa using this
inductive kJ (h:Heap):List Value->List (b3)->Prop
 |nil:kJ h [] []
 |cons {v:Value} {k:b3} {vs:b4} {ks:b0} (t:Jg h v k) (ne:k≠[]) (r:kJ h vs ks):kJ h (v::vs) (k::ks)
theorem kJ.length:∀{vs:b4}{ks:b0},kJ h vs ks->vs.length=ks.length
 |_,_,.nil=>rfl|_,_,.cons _ _ r=>by simp[r.length]
theorem kJ.keep (kp:∀b o,h.get? b=some o->h'.get? b=some o):∀{vs:b4}{ks:b0},kJ h vs ks->kJ h' vs ks
 |_,_,.nil=>.nil|_,_,.cons t ne r=>.cons (t.keep kp) ne (r.keep kp)
theorem kJ.at:∀{vs:b4}{ks:b0}(i:Nat),kJ h vs ks->i<ks.length->Jg h (vs.getD i Value.none) (ks.getD i [])
 |_,_,_,.nil,H=>by simp at H|_,_,0,.cons t _ _,_=>t|_,_,i+1,.cons _ _ r,H=>r.at i (by simpa using H)
theorem kJ.firsts:∀{vs:b4}{ks:b0},kJ h vs ks->∃fs:b4,KatTups h vs fs/\fs.length=vs.length/\∀v∈fs,∃i t,v=Value.int i t
 |_,_,.nil=>⟨[],trivial,rfl,λv H=>by cases H⟩|_,_,.cons (k:=k) ⟨a,o,its,n,e,h1,d,c,b⟩ ne r=>by
  obtain⟨fs,t,l,hf⟩:=r.firsts;cases b with
  |nil=>exact absurd rfl ne|cons i tk q=>
   refine⟨Value.int i tk::fs,⟨⟨a,o,_,n,e,h1,d,c,rfl⟩,t⟩,by simp[l],λv H=>?_⟩
   rcases cy.mp H with rfl|H
   ·exact⟨i,tk,rfl⟩
   ·exact hf v H
section
variable {O:KeyOrd}{d0:O.α}
structure Y2 (prog:Program)(w:World)(A:Around)(κ:SortKind)(vs:b4)(ks:List O.α)(d0:O.α)(s:Shared):Prop where
 kind:2<=vs.length->∀{Q:SortKind->Shared->Prop}{E:cb},Q κ s->wpAny (model prog w) A (keyKind' vs.toArray) Q E s
 lt:∀i j,i<ks.length->j<ks.length->∀{Q:Bool->Shared->Prop}{E:cb},Q (O.blt (ks.getD i d0) (ks.getD j d0)) s->wpAny (model prog w) A (keyLt' κ (vs.getD i Value.none) (vs.getD j Value.none)) Q E s
def Fz {κ:SortKind}{ks:List O.α}{P:PySem.Fin->Shared->Prop}(g:s.heap.get? a=some (seqObj "list" vs.toArray n))(l:vs.length=ks.length)(L:∀h':Heap,(∀b o,b≠a->s.heap.get? b=some o->h'.get? b=some o)->Y2 prog w A κ vs ks d0 { s with heap:=h' })(x:vs.length<64)
  (h:∀p:Array Nat,p.Perm (List.range ks.length).toArray->(p.toList.map λi=>ks.getD i d0)=jz ks->P (.done (.ret .none)) { s with heap:=sortedHeap s.heap a vs (p.toList.map λi=>vs.getD i Value.none).toArray }):
  wpAny (model prog w) A (Builtin.«list.sort» ⟨[.ref a],[]⟩) P E s:=by
 have ha:a<s.heap.objs.size:=aH g;obtain⟨D,f⟩:∃D,(s.heap.update a (Obj.mapSeq λ_=>(#[]:Array Value))).get? a=some (seqObj "list" #[] D):=⟨_,get?_update_seq g λ_=>#[]⟩;have kp:∀b o,b≠a->s.heap.get? b=some o->(((s.heap.update a (Obj.mapSeq λ_=>(#[]:Array Value))).push (seqObj "tuple" vs.toArray 0)).push (seqObj "list" #[] 0)).get? b=some o:=λb o ne e=>
  ae _ (ae _ ((aR _ _ (Ne.symm ne)).trans e))
 have T:=L _ kp;have H:=ae (seqObj "list" #[] 0) (ae (seqObj "tuple" vs.toArray 0) f);have hsz:vs.toArray.size=vs.length:=by simp
 rw[list_sort_plain];refine cu (listItems_at g rfl ?_);refine cu (listUpdate_at g rfl ?_ (by rw[hsz,sizeLine_eq];omega) (bR _))
 refine cu (seqEpoch_at f rfl ?_);refine cu (wpAny_newTuple ?_ (by show vs.length<=_;rw[sizeLine_eq];omega))
 refine cu (wpAny_newList ?_ (bR _));refine wpAny_holding ?_;show wpAny (model prog w) A _ P E { s with heap:=((s.heap.update a (Obj.mapSeq λ_=>(#[]:Array Value))).push (seqObj "tuple" vs.toArray 0)).push (seqObj "list" #[] 0) }
 dsimp only
 by_cases c:vs.toArray.size<2
 ·rw[ah c,ah c]
  refine cu (cw ?_);rw[StateT.run_pure];refine cu (cw ?_);dsimp only;have X:((vs.toArray.zip vs.toArray).map (·.2))=((List.range ks.length).toArray.toList.map λi=>vs.getD i Value.none).toArray:=by
   rw[<- l,List.toList_toArray,Je];exact fN vs
  refine cu (seqEpoch_at H rfl ?_);show wpAny _ _ (Builtin.List.listUpdate (.ref a) (λ_=>(vs.toArray.zip vs.toArray).map (·.2)) >>= _) _ _ _;rw[X];refine cu (listUpdate_at H rfl ?_ (bR _) (by rw[aA,ag];simp;rw[<- l,sizeLine_eq];omega))
  simp only[bne_self_eq_false,ba,if_false];refine cw (h (List.range ks.length).toArray (Array.Perm.refl _) ?_);rw[List.toList_toArray,Je];rw[hsz,l]at c;exact FF c
 ·rw[aj c,aj c]
  have y:2<=vs.length:=by omega
  refine cu (T.kind y ?_);refine cu (wpAny_mono (kat_run (ks:=vs) (G:=λp d=>d={ s with heap:=((s.heap.update a (Obj.mapSeq λ_=>(#[]:Array Value))).push (seqObj "tuple" vs.toArray 0)).push (seqObj "list" #[] 0) }/\p.Perm (List.range ks.length).toArray/\(p.toList.map λi=>ks.getD i d0)=jz ks)
   (Q:=λS d=>∃p:Array Nat,p.size=vs.length/\arrOf S=p.map (PySem.W.kas_item (vs.toArray.zip vs.toArray))/\failedOf S=none/\d={ s with heap:=((s.heap.update a (Obj.mapSeq λ_=>(#[]:Array Value))).push (seqObj "tuple" vs.toArray 0)).push (seqObj "list" #[] 0) }/\p.Perm (List.range ks.length).toArray/\(p.toList.map λi=>ks.getD i d0)=jz ks)
   rfl y x (λp S d a1 a2 a3 a4=>⟨p,a1,a2,a3,a4⟩) ?_) ?_ λ_ _ e=>e)
  ·rw[l]
   refine TW.wp (n:=ks.length) (c:=kc (O:=O) λi=>ks.getD i d0) (λi j C t q N=>?_) _ (fL (by omega) λp P J=>⟨rfl,P.pm,?_⟩)
   ·exact T.lt i j t q N
   ·refine Nd ?_ ?_ (XH ks)
    ·have B:(p.toList.map λi=>ks.getD i d0).Perm ((List.range ks.length).map λi=>ks.getD i d0):=(Array.perm_iff_toList_perm.mp P.pm).map _
     rw[Je]at B;exact B.trans (QT ks).symm
    ·rw[pairwise_map,List.pairwise_iff_getElem]
     intro i j t q M;have z:p.size=ks.length:=P.size;have r:i<p.size:=by simpa using t
     have m:j<p.size:=by simpa using q
     have:=J i j (by omega) (by omega)
     unfold gk at this;have Z:p.getD i 0=p.toList[i]:=by simp[Array.getD,r]
     have Y:p.getD j 0=p.toList[j]:=by simp[Array.getD,m]
     rw[Z,Y]at this;exact this
  ·rintro⟨⟨⟩,S⟩ d ⟨p,K,v,u,rfl,pm,U⟩
   dsimp only;rw[kat_snds rfl v];have I:(List.toArray (p.toList.map λi=>vs.getD i Value.none)).size=vs.length:=by rw[aA,ag,aO,K]
   refine cu (seqEpoch_at H rfl ?_);refine cu (listUpdate_at H rfl ?_ (bR _) (by rw[I,sizeLine_eq];omega))
   rw[u];simp only[bne_self_eq_false,ba,if_false];exact cw (h p pm U)
def X6 {κ:SortKind}{l:Addr}{ks:List O.α}(j:s.heap.IsList l vs.toArray)(hlen:vs.length=ks.length)(T:∀(g:Around)(h':Heap)(tk:Nat),g.units<=A.units+8->(∀b o,s.heap.get? b=some o->h'.get? b=some o)->Y2 prog w g κ vs ks d0 { s with heap:=h',toks:=tk })(f:vs.length<64)
  (h:∀(h':Heap)(a:Addr)(p:Array Nat)(c:Nat),s.heap.objs.size<=a->p.Perm (List.range ks.length).toArray->(p.toList.map λi=>ks.getD i d0)=jz ks->h'.get? a=some { cls:=.type "list",data:=.seq (p.toList.map λi=>vs.getD i Value.none).toArray c }->
   (∀b o,s.heap.get? b=some o->h'.get? b=some o)->Q (.ref a) { s with heap:=h' }):
  wpAny (model prog w) A (call (.builtin "sorted") [.ref l]) Q E s:=by
 refine Calls.call_function_entry kind_sorted plain_sorted entry_sorted (args_sorted1 _) ?_;unfold Builtin.«sorted»;refine cu (m:=checkCount "sorted" 1 1 _) (cw ?_);refine cu (collect_list j ?_ (by rw[sizeLine_eq];omega))
 refine cu (wpAny_newList ?_ (by rw[sizeLine_eq];omega))
 have hsz:((s.heap.push (seqObj "list" #[] 0)).update s.heap.objs.size (Obj.mapSeq (·++vs.toArray))).objs.size=s.heap.objs.size+1:=by rw[Heap.size_update,size_push']
 show wpAny _ _ _ _ _ { s with heap:=((s.heap.push (seqObj "list" #[] 0)).update s.heap.objs.size (Obj.mapSeq (·++vs.toArray))).push (seqObj "list" vs.toArray 0) }
 have d:∀b o,s.heap.get? b=some o->((s.heap.push (seqObj "list" #[] 0)).update s.heap.objs.size (Obj.mapSeq (·++vs.toArray))).get? b=some o:=λb o e=>
  (aR _ _ (bt (aH e))).trans (ae _ e)
 generalize (s.heap.push (seqObj "list" #[] 0)).update s.heap.objs.size (Obj.mapSeq (·++vs.toArray))=h1 at hsz d;have H:(h1.push (seqObj "list" vs.toArray 0)).get? h1.objs.size=some (seqObj "list" vs.toArray 0):=au _ rfl;have K:∀b o,s.heap.get? b=some o->(h1.push (seqObj "list" vs.toArray 0)).get? b=some o:=λb o e=>ae _ (d b o e);have nb:∀b o,s.heap.get? b=some o->b≠h1.objs.size:=λb o e z=>by
  subst z
  have:h1.objs.size<s.heap.objs.size:=aH e
  omega
 refine cu (wpAny_holding (wpAny_call_entry slot_list_sort ⟨_,H,rfl⟩ entry_list_sort (Fz (κ:=κ) (ks:=ks) (d0:=d0) H hlen (λh' kp=>T _ h' _ (by first|(show A.units+1<=A.units+8;omega)|(show A.units+1+1<=A.units+8;omega)) λb o e=>kp b o (nb b o e) (K b o e)) f λp pm n=>⟨_,rfl,?_⟩) (args_list_sort _)))
 refine cw ⟨_,rfl,?_⟩;have t:=get?_update_seq H (λ_=>(#[]:Array Value));have r:=ae (seqObj "list" #[] 0) (ae (seqObj "tuple" vs.toArray 0) t);obtain⟨c,q⟩:∃c,(sortedHeap (h1.push (seqObj "list" vs.toArray 0)) h1.objs.size vs (p.toList.map λi=>vs.getD i Value.none).toArray).get? h1.objs.size=some (seqObj "list" (p.toList.map λi=>vs.getD i Value.none).toArray c):=⟨_,get?_update_seq r (λ_=>(p.toList.map λi=>vs.getD i Value.none).toArray)⟩;refine h _ h1.objs.size p c (by omega) pm n q λb o e=>?_
 unfold sortedHeap;exact(aR _ _ (Ne.symm (nb b o e))).trans (ae _ (ae _ ((aR _ _ (Ne.symm (nb b o e))).trans (K b o e))))
end
def Ed {A:Around}(T:kJ s.heap vs ks):Y2 (O:=gi) prog w A (tuples' (Value.type "int" != Value.type "tuple")) vs ks [] s where
 kind:=λc Q E h=>by
  obtain⟨fs,t,f,hf⟩:=T.firsts;exact kat_kind (T:=.type "int") t (by omega) (λv H=>by obtain⟨i,tk,rfl⟩:=hf v H;exact Looks.of_pure rfl) rfl h
 lt:=λi j b a Q E h=>fP (T.at i b) (T.at j a) h
def Hs {l:Addr}(d:s.heap.IsList l vs.toArray)(T:kJ s.heap vs ks)(H:vs.length<64)
  (h:∀(h':Heap)(a:Addr)(p:Array Nat)(c:Nat),s.heap.objs.size<=a->p.Perm (List.range ks.length).toArray->(p.toList.map λi=>ks.getD i [])=ZN ks->h'.get? a=some { cls:=.type "list",data:=.seq (p.toList.map λi=>vs.getD i Value.none).toArray c }->
   (∀b o,s.heap.get? b=some o->h'.get? b=some o)->Q (.ref a) { s with heap:=h' }):
  wpAny (model prog w) A (call (.builtin "sorted") [.ref l]) Q E s:=
 X6 (O:=gi) (d0:=[]) d T.length (λA h' tk _ kp=>Ed (s:={ s with heap:=h',toks:=tk }) (T.keep kp)) H h
end
noncomputable def zO (k:b3):W:=.tup (k.map W.int)
def Qu:List W->Option (b0)
 |[]=>some []|.tup xs::ws=>match intsOf xs with
  |some k=>if k=[] then none else(Qu ws).map (k::·)|none=>none
 |_::_=>none
theorem PR:∀{ws:List W}{ks:b0},Qu ws=some ks->ws=ks.map zO/\∀k∈ks,k≠[]
 |[],_,h=>by cases h;exact⟨rfl,λk a=>by cases a⟩|w::ws,ks,h=>by
  cases w with
  |tup xs=>
   unfold Qu at h;cases E:intsOf xs with
   |none=>rw[E]at h;cases h|some k=>
    rw[E]at h;dsimp only at h
    by_cases c:k=[]
    ·rw[ah c]at h;cases h
    ·rw[aj c]at h
     cases e:Qu ws with
     |none=>rw[e]at h;cases h|some ls=>
      rw[e]at h;cases h;obtain⟨a1,a2⟩:=PR e;refine⟨by rw[aF,<- a1,Qc E];rfl,λx H=>?_⟩
      rcases cy.mp H with rfl|H
      ·exact c
      ·exact a2 x H
  |_=>cases h
theorem Vals.sel (h:Vals ys us):∀(l:b7),(∀i∈l,i<ys.length)->Vals (l.map λi=>ys.getD i .non) (l.map λi=>us.getD i Value.none)
 |[],_=>.nil|i::l,hi=>by
  have a:=h.length;have I:i<ys.length:=hi i (ay ..);obtain⟨u,E,e⟩:=h.get (i:=i) (x:=ys[i]) (aa I);refine .cons ?_ (Vals.sel h l λj H=>hi j (aw _ H));show L2.RelV (ys.getD i V.non) (us.getD i Value.none);rw[ab,ab,E,aa I];exact e
theorem zu.sel {K:Frag}{f:List Int->W}:∀{ks:b0}{y:List V}(i:Nat),zu K φ H (ks.map f) y->i<ks.length->RV K φ H (f (ks.getD i [])) (y.getD i .non)
 |[],_,_,_,hi=>by simp at hi|k::ks,_,0,⟨v,r,e,h,t⟩,_=>by subst e;exact h|k::ks,_,i+1,⟨v,r,e,h,t⟩,hi=>by subst e;exact zu.sel i t (by simpa using hi)
theorem zu.sels {K:Frag}{f:List Int->W}(h:zu K φ H (ks.map f) ys):∀(l:b7),(∀i∈l,i<ks.length)->zu K φ H ((l.map λi=>ks.getD i []).map f) (l.map λi=>ys.getD i .non)
 |[],_=>rfl|i::l,hi=>⟨_,_,rfl,zu.sel i h (hi i (ay ..)),zu.sels h l λj a=>hi j (aw _ a)⟩
section
theorem OO {σ:List (Option V)}(I:Inv X pins σ H s):∀{ks:b0}{y:List V}{i:b4},zu X.K φ H (ks.map zO) y->(∀k∈ks,k≠[])->Vals y i->kJ s.heap i ks
 |[],_,_,e,_,b=>by
  have E:_=([]:List V):=e;subst E;rw[Vals.zero b];exact .nil
 |k::ks,_,_,⟨v,r,e,h,t⟩,ne,b=>by
  subst e;cases b with
  |cons c b=>
   obtain⟨a,vs,e,hT,d⟩:=h;subst e;have ev:=zu.ints.mp d;subst ev;obtain⟨i,g,⟨o,g1,g2,n,g3⟩,_⟩:=I.tuple hT;cases c;exact .cons ⟨a,o,i,n,rfl,g1,g2,g3,intsAre_of g⟩ (ne k (ay ..)) (OO I t (λk f=>ne k (aw _ f)) b)
def Ho:jN X (.builtin "sorted") (λxs H Q=>∃(p:Addr) (y:List V) (ks:b0) (φ:b5),xs=[.ref p]/\qC X.K H p y/\zu X.K φ H (ks.map zO) y/\(∀k∈ks,k≠[])/\ks.length<64/\
  ∀l zs,H l=none->zu X.K φ H ((ZN ks).map zO) zs->Q (.ref l) (upd H l (.lst zs))):=by
 intro pins s σ H xs us Q I r h;obtain⟨p,y,ks,φ,rfl,m,d,ne,w,q⟩:=h;obtain⟨u,rfl,f⟩:=vals1 r;cases f;obtain⟨g,v,⟨o,k,B,A,D,x⟩,C⟩:=I.list m;have T:=OO I d ne v;have n:=T.length;have j:y.length=ks.length:=by rw[v.length];exact n
 refine Hs ⟨o,B,A,k,x⟩ T (by omega) λh' a p c e pm E t kp=>?_
 have lt:∀i∈p.toList,i<ks.length:=λi b=>by
  have:=(Array.perm_iff_toList_perm.mp pm).mem_iff.mp b
  simpa using this
 have P:p.toList.length=ks.length:=by rw[aO,pm.size_eq];simp
 have z:=zu.sels d p.toList lt;rw[E]at z;refine⟨.ref a,_,I.laid (t':=s.toks) (o:=.lst (p.toList.map λi=>y.getD i .non)) kp e ⟨?_,_,c,Vals.sel v p.toList λi b=>by rw[j];exact lt i b,t⟩,rfl,q _ _ (I.hok.fresh e) z⟩
 rw[ag,P,sizeLine_eq];omega
def VF:W->Hx->R W:=λw A=>match w with
 |.ref n=>match A[n]? with
  |some (.lst ws)=>match Qu ws with
   |some ks=>if ks.length<64 then .ok (.ref A.length) (A++[.lst ((ZN ks).map zO)]) else .bad|none=>.bad
  |_=>.bad
 |_=>.bad
def Y6 (m:Ev):Ev:=λρ A=>(m ρ A).bind λw A1=>VF w A1
end
open PySem.W (kas_kind)
abbrev yV:KeyOrd:=Lq gi
theorem Vf:∀x y:b3,HT.lexLt x y=gf x y
 |[],[]=>rfl|[],_::_=>rfl|_::_,[]=>rfl|a::x,b::y=>by
  show(if a=b then HT.lexLt x y else decide (a<b))=(if a=b then gf x y else decide (a<b));rw[Vf x y]
theorem ku.at:∀{vs:b4}{n:b0}(i:Nat),ku h vs n->(H:i<n.length)->∃p I,vs[i]? =some (.ref p)/\IsTup h p I/\IntsAre I.toList n[i]
 |_,_,_,.nil,H=>by simp at H|_,_,0,.cons t i _,_=>⟨_,_,rfl,t,i⟩|_,_,i+1,.cons _ _ r,H=>by
  obtain⟨p,I,c,b,a⟩:=r.at i (by simpa using H)
  exact⟨p,I,by simpa using c,b,by simpa using a⟩
section
open PySem.SeqAt
open PySem.AutoSeq1 (wpAny_loadPart')
open PySem.MeetsSeq PySem.MeetsSeq2 PySem.MeetsSeq3
def DB (l b:Addr)(items I:Array Value)(n Y:Nat)(dd D:cp)(X S:Array (b8))(N m:b0)(k:Nat):
  ∀i:Nat,items.size-i=k->i<=items.size->i<=I.size->Meets (Builtin.«list.__eq__.loop» ⟨[.ref l,.ref b,rawInt i,rawInt 0],[]⟩)
   (λA R s=>s.heap.get? l=some { cls:=.type "list",dict:=dd,data:=.seq items n,slots:=X }/\s.heap.get? b=some { cls:=.type "list",dict:=D,data:=.seq I Y,slots:=S }/\
    ku s.heap items.toList N/\ku s.heap I.toList m/\A.units+20<cLine/\R (.ok (.ret (.bool (jQ gi.blt (N.drop i) (m.drop i))))) s):=by
 induction k with
 |zero=>
  intro i hk hi B prog w A R s h;obtain⟨r,g,d,tk,os⟩:=s;obtain⟨j,o,t1,T,M,h⟩:=h;have U:items.size=N.length:=by rw[<- t1.length];simp
  have Z:I.size=m.length:=by rw[<- T.length];simp
  wp_walk using wpAny_loadPart' j,wpAny_loadPart' o
  have f:items[((i:Nat):Int).toNat]? =none:=by simp;omega
  rw[f]
  wp_walk using wpAny_loadPart' j,wpAny_loadPart' o
  have y:jQ gi.blt (N.drop i) (m.drop i)=decide (items.size<I.size):=by
   rw[List.drop_of_length_le (by omega)]
   cases e:m.drop i with
   |nil=>
    have:=congrArg List.length e
    simp at this;exact(ax (by omega)).symm
   |cons a q=>
    have:=congrArg List.length e
    simp at this;exact(aq (by omega)).symm
  rw[y]at h;exact h
 |succ k ih=>
  intro i hk hi B prog w A R s h;obtain⟨r,g,d,tk,os⟩:=s;obtain⟨j,o,t1,T,M,h⟩:=h;have U:items.size=N.length:=by rw[<- t1.length];simp
  have Z:I.size=m.length:=by rw[<- T.length];simp
  have t:i<items.size:=by omega
  have hc:((i:Int)+1)=((i+1:Nat):Int):=by push_cast;rfl
  have hu1:A.in1.units+15<cLine:=by
   have:A.in1.units<=A.units+1:=ao _
   omega
  have f:items[((i:Nat):Int).toNat]? =some items[i]:=by simp[t]
  have hd:N.drop i=N[i]::N.drop (i+1):=bb (by omega)
  wp_walk using wpAny_loadPart' j,wpAny_loadPart' o
  rw[f]
  by_cases H:i<I.size
  ·have c:I[((i:Nat):Int).toNat]? =some I[i]:=by simp[H]
   have hd2:m.drop i=m[i]::m.drop (i+1):=bb (by omega)
   rw[c];obtain⟨p,its,x,K,P⟩:=t1.at i (by omega)
   obtain⟨q,L,v,J,C⟩:=T.at i (by omega)
   have x:items[i]=.ref p:=by simpa[t] using x
   have v:I[i]=.ref q:=by simpa[H] using v
   rw[hd,hd2]at h;unfold jQ at h;have he:=EE (A:=A.in1) (s:=⟨r,g,d,tk,os⟩) K J P C (by omega)
   rw[<- x,<- v]at he;refine cu (he prog w _ _ ?_)
   by_cases u:N[i]=m[i]
   ·rw[ah u]at h
    rw[aq u]
    wp_walk
    rw[hc];exact⟨plainId_quiet plain_eq_loop _,codeAny_builtin entry_eq_loop (by
     rw[Around.under_plainId plain_eq_loop _];exact ih (i+1) (by omega) t H prog w A R _ ⟨j,o,t1,T,M,h⟩)⟩
   ·rw[aj u]at h
    rw[ax u]
    wp_walk using wpAny_loadPart' j,wpAny_loadPart' o
    rw[f,c,x,v];have z:∀(E:cb)(Q:cb),Q (.bool (HT.lexLt N[i] m[i])) ⟨r,g,d,tk,os⟩->wpAny (model prog w) A.in1 (richCompare .Lt (.ref p) (.ref q)) Q E ⟨r,g,d,tk,os⟩:=λE Q hQ=>
     (HT.Ry (s:=⟨r,g,d,tk,os⟩) K J P C (by omega) hQ:wpAny (model prog w) A.in1 (compareOp .Lt (.ref p) (.ref q)) Q E ⟨r,g,d,tk,os⟩)
    wp_walk using z
    rw[Vf];exact h
  ·have c:I[((i:Nat):Int).toNat]? =none:=by simp;omega
   rw[c]
   wp_walk using wpAny_loadPart' j,wpAny_loadPart' o
   have y:jQ gi.blt (N.drop i) (m.drop i)=decide (items.size<I.size):=by
    rw[hd,List.drop_of_length_le (l:=m) (by omega)]
    exact(ax (by omega)).symm
   rw[y]at h;exact h
def Dz (l b:Addr)(items i:Array Value)(n c:Nat)(f D:cp)(a S:Array (b8))(N m:b0):
  Meets (Builtin.«list.__lt__» ⟨[.ref l,.ref b],[]⟩)
   (λA R s=>s.heap.get? l=some { cls:=.type "list",dict:=f,data:=.seq items n,slots:=a }/\s.heap.get? b=some { cls:=.type "list",dict:=D,data:=.seq i c,slots:=S }/\
    ku s.heap items.toList N/\ku s.heap i.toList m/\A.units+20<cLine/\R (.ok (.ret (.bool (jQ gi.blt N m)))) s):=by
 intro prog w A R s h;obtain⟨p,g,d,tk,os⟩:=s;obtain⟨H,e,t1,t,u,h⟩:=h;have j:=AutoSeq1.sub_list_list
 wp_walk using wpAny_loadPart' H,wpAny_loadPart' e
 exact⟨plainId_quiet plain_eq_loop _,codeAny_builtin entry_eq_loop (by
  rw[Around.under_plainId plain_eq_loop _];exact DB l b items i n c f D a S N m _ 0 rfl (bR _) (bR _) prog w A R _ ⟨H,e,t1,t,u,h⟩)⟩
end
def Ji (h:Heap)(v:Value)(ks:b0):Prop:=∃(l:Addr) (items:Array Value) (n:Nat),v=.ref l/\h.get? l=some (kQ items n)/\ku h items.toList ks
theorem Ji.keep {v:Value}(t:Ji h v ks)(kp:∀b o,h.get? b=some o->h'.get? b=some o):Ji h' v ks:=by
 obtain⟨l,items,n,e,a,H⟩:=t;exact⟨l,items,n,e,kp _ _ a,H.keep λp i ⟨o,e,r⟩=>⟨o,kp _ _ e,r⟩⟩
section
variable {prog:Program}{A:Around}
def fQ {x y:Value}{k l:b0}{Q:Bool->Shared->Prop}(d:Ji s.heap x k)(c:Ji s.heap y l)(u:A.units+30<cLine)(h:Q (jQ gi.blt k l) s):wpAny (model prog w) A (keyLt' oneType' x y) Q E s:=by
 obtain⟨a,items,n,rfl,H,t1⟩:=d;obtain⟨b,i,N,rfl,e,t⟩:=c;rw[keyLt'_oneType,oneLt'_eq];simp only[if_true];refine cu (wpAny_cRoomFor (by omega) ?_)
 refine cu (wpAny_callSpecialIfBound?_slot (T := "list") ⟨_,H,rfl⟩ (show Slot "list" "__lt__" "list.__lt__" from F.slot_list_lt) (call_meets F.slot_list_lt ⟨_,H,rfl⟩ F.entry_list_lt (F.args_list_lt_2 _ _) (Dz a b items i n N none none #[] #[] k l) ⟨H,e,t1,t,(by first|(show A.units+20<cLine;omega)|(show A.units+1+20<cLine;omega)|(show A.units+1+1+20<cLine;omega)),?_⟩))
 exact wpAny_truthy_bool h
def E8 {ks:List (b0)}(g:vs.length=ks.length)(a:∀i,i<ks.length->Ji s.heap (vs.getD i Value.none) (ks.getD i []))(u:A.units+30<cLine):Y2 (O:=yV) prog w A oneType' vs ks [] s where
 kind:=λd Q E h=>kas_kind (T:=.type "list") d (λv H=>by
  obtain⟨i,b,rfl⟩:=aW H;obtain⟨l,items,n,e,f,_⟩:=a i (by omega)
  have e:vs[i]=.ref l:=by simpa[b] using e
  rw[e];exact(show Looks (model prog w) s.heap (typeOf (.ref l)) (kQ items n).cls from (Looks.ld f).andThen .now)) (by decide) (by decide) h
 lt:=λi j b c Q E h=>fQ (a i b) (a j c) u h
end
section
variable {K:Frag}
theorem PJ {σ:List (Option V)}(I:Inv X pins σ H s):∀{ks:b0}{y:List V}{i:b4},zu X.K φ H (ks.map zO) y->Vals y i->ku s.heap i ks
 |[],_,_,e,b=>by
  have E:_=([]:List V):=e;subst E;rw[Vals.zero b];exact .nil
 |k::ks,_,_,⟨v,r,e,h,t⟩,b=>by
  subst e;cases b with
  |cons c b=>
   obtain⟨a,vs,e,hT,d⟩:=h;subst e;have ev:=zu.ints.mp d;subst ev;obtain⟨i,f,ht,_⟩:=I.tuple hT;cases c;exact .cons ht (by simpa using intsAre_of f) (PJ I t b)
def Jk:List W->Option (b0)
 |[]=>some []|.tup xs::ws=>match intsOf xs,Jk ws with
  |some k,some r=>some (k::r)|_,_=>none
 |_::_=>none
theorem Vx:∀{ws:List W}{ks:b0},Jk ws=some ks->ws=ks.map zO
 |[],_,h=>by cases h;rfl|w::ws,ks,h=>by
  unfold Jk at h
  split at h
  ·cases ‹_::_=[]›
  ·rename_i xs a e
   cases e
   split at h
   ·rename_i k r b E
    cases h;rw[aF,<- Vx E,Qc b]
    rfl
   ·cases h
  ·cases h
def Zm (A:Hx):List W->Option (List (b0))
 |[]=>some []|.ref k::us=>match A[k]? with
  |some (.lst ws)=>match Jk ws,Zm A us with
   |some ks,some r=>some (ks::r)|_,_=>none
  |_=>none
 |_::_=>none
def QK (K:Frag)(φ:b5)(H:Hp):List V->List (b0)->Prop
 |[],[]=>True|.ref a::ys,ks::r=>(∃vs,H a=some (.lst vs)/\zu K φ H (ks.map zO) vs)/\QK K φ H ys r|_,_=>False
theorem Pw (S:zL K φ A H):∀{us:List W}{s:List (b0)}{y:List V},Zm A us=some s->zu K φ H us y->QK K φ H y s/\y.length=us.length
 |[],_,_,e,h=>by cases e;cases h;exact⟨True.intro,rfl⟩|u::us,s,_,e,⟨v,r,f,h,t⟩=>by
  subst f;cases u with
  |ref k=>
   unfold Zm at e;cases E:A[k]? with
   |none=>rw[E]at e;cases e|some o=>cases o with
    |lst ws=>
     rw[E]at e;dsimp only at e
     split at e
     ·rename_i ks g d c
      cases e;obtain⟨p,xs,rfl,_,b,a⟩:=S.lst h E;rw[Vx d]at a;obtain⟨a1,a2⟩:=Pw S c t;exact⟨⟨⟨xs,b,a⟩,a1⟩,by rw[aN,a2];rfl⟩
     ·cases e
    |_=>rw[E]at e;cases e
  |_=>cases e
theorem QK.length:∀{Y:List V}{s:List (b0)},QK K φ H Y s->Y.length=s.length
 |[],[],_=>rfl|[],_::_,h=>h.elim|y::Y,[],h=>by cases y<;>exact h.elim|.ref a::Y,ks::r,h=>by rw[aN,h.2.length];rfl|.non::_,_::_,h=>h.elim|.bl _::_,_::_,h=>h.elim|.int _::_,_::_,h=>h.elim|.str _::_,_::_,h=>h.elim
theorem QK.at {σ:List (Option V)}(I:Inv X pins σ H s):∀{Y:List V}{b:List (b0)}{c:b4}(i:Nat),QK X.K φ H Y b->Vals Y c->i<b.length->Ji s.heap (c.getD i Value.none) (b.getD i [])
 |[],[],_,_,_,_,hi=>by simp at hi|[],_::_,_,_,h,_,_=>h.elim|y::Y,[],_,_,_,_,hi=>by simp at hi|.ref a::Y,ks::r,_,0,h,.cons v d,_=>by
  cases v;obtain⟨vs,g,f⟩:=h.1;obtain⟨_,it,n,e,_,E⟩:=I.lstM g;exact⟨a,it.toArray,n,rfl,E,by simpa using PJ I f e⟩
 |.ref a::Y,ks::r,_,i+1,h,.cons v d,hi=>h.2.at I i d (by simpa using hi)|.non::_,_::_,_,_,h,_,_=>h.elim|.bl _::_,_::_,_,_,h,_,_=>h.elim|.int _::_,_::_,_,_,h,_,_=>h.elim|.str _::_,_::_,_,_,h,_,_=>h.elim
def IX (D:X.A.units+64<cLine):jN X (.builtin "sorted") (λxs H Q=>∃(p:Addr) (y:List V) (b:List (b0)) (φ:b5),xs=[.ref p]/\qC X.K H p y/\QK X.K φ H y b/\b.length<64/\
  ∀l (pm:b7),H l=none->pm.Perm (List.range b.length)->(pm.map λi=>b.getD i [])=jz (O:=yV) b->Q (.ref l) (upd H l (.lst (pm.map λi=>y.getD i .non)))):=by
 intro pins s σ H xs us Q I r h;obtain⟨p,y,b,φ,rfl,n,L,w,q⟩:=h;obtain⟨u,rfl,m⟩:=vals1 r;cases m;obtain⟨e,v,⟨o,k,B,z,M,x⟩,C⟩:=I.list n;have f:=L.length;have g:e.length=b.length:=by rw[<- v.length,f]
 refine X6 (O:=yV) (d0:=[]) ⟨o,B,z,k,x⟩ g (λN h' tk J kp=>E8 (s:={ s with heap:=h',toks:=tk }) g (λi d=>(L.at I i v d).keep kp) (by omega)) (by omega) λh' a p c j pm E t kp=>?_
 have lt:∀i∈p.toList,i<b.length:=λi d=>by
  have:=(Array.perm_iff_toList_perm.mp pm).mem_iff.mp d
  simpa using this
 have P:p.toList.length=b.length:=by rw[aO,pm.size_eq];simp
 refine⟨.ref a,_,I.laid (t':=s.toks) (o:=.lst (p.toList.map λi=>y.getD i .non)) kp j ⟨?_,_,c,Vals.sel v p.toList λi d=>by rw[f];exact lt i d,t⟩,rfl,q _ p.toList (I.hok.fresh j) (by simpa using Array.perm_iff_toList_perm.mp pm) E⟩
 rw[ag,P,sizeLine_eq];omega
def ZG:W->Hx->R W:=λw A=>match w with
 |.ref n=>match A[n]? with
  |some (.lst us)=>match Zm A us with
   |some K=>if K.length<64/\K.Nodup then .ok (.ref A.length) (A++[.lst ((jz (O:=yV) K).map λk=>us.getD (K.idxOf k) .non)]) else .bad|none=>.bad
  |_=>.bad
 |_=>.bad
def ED:∀x A,qJ (ZG x A):=λx A=>by
 unfold ZG
 split
 ·split
  ·split
   ·exact wX jy qA
   ·exact qA
  ·exact qA
 ·exact qA
theorem zu.pick:∀{us:List W}{y:List V}(i:Nat),zu K φ H us y->i<us.length->RV K φ H (us.getD i .non) (y.getD i .non)
 |[],_,_,_,hi=>by simp at hi|u::us,_,0,⟨v,r,e,h,t⟩,_=>by subst e;exact h|u::us,_,i+1,⟨v,r,e,h,t⟩,hi=>by subst e;exact zu.pick i t (by simpa using hi)
theorem zu.picks {us:List W}(h:zu K φ H us ys):∀(l:b7),(∀i∈l,i<us.length)->zu K φ H (l.map λi=>us.getD i .non) (l.map λi=>ys.getD i .non)
 |[],_=>rfl|i::l,hi=>⟨_,_,rfl,zu.pick i h (hi i (ay ..)),zu.picks h l λj a=>hi j (aw _ a)⟩
def FT:KJ K (λv H Q=>∃(p:Addr) (y:List V) (s:List (b0)) (φ:b5),[v]=[.ref p]/\qC K H p y/\QK K φ H y s/\s.length<64/\
  ∀l (pm:b7),H l=none->pm.Perm (List.range s.length)->(pm.map λi=>s.getD i [])=jz (O:=yV) s->Q (.ref l) (upd H l (.lst (pm.map λi=>y.getD i .non)))) ZG:=λφ A H x u Q S q p=>by
 unfold ZG at p;cases u with
 |ref n=>
  dsimp only at p;cases e:A[n]? with
  |none=>rw[e]at p;exact p.elim|some o=>cases o with
   |lst us=>
    rw[e]at p;dsimp only at p;cases E:Zm A us with
    |none=>rw[E]at p;exact p.elim|some s=>
     rw[E]at p;dsimp only at p
     by_cases c:s.length<64/\s.Nodup
     ·rw[ah c]at p
      obtain⟨P,y,rfl,_,f,r⟩:=S.lst q e;obtain⟨L,g⟩:=Pw S E r;have a:us.length=s.length:=by rw[<- g,L.length]
      refine⟨P,y,s,φ,rfl,qC.of f,L,c.1,λl pm b pp j=>?_⟩;have lt:∀i∈pm,i<s.length:=λi h=>by simpa using pp.mem_iff.mp h
      have m:(pm.map λi=>us.getD i .non)=(jz (O:=yV) s).map λk=>us.getD (s.idxOf k) .non:=by
       rw[<- j,aI];refine aL λi h=>?_;have d:=lt i h;show us.getD i .non=us.getD (s.idxOf (s.getD i [])) .non;rw[ab (l:=s),aa d];show us.getD i .non=us.getD (s.idxOf s[i]) .non;rw[c.2.idxOf_getElem]
      obtain⟨a1,a2,t⟩:=gG S b (r.picks pm λi h=>by rw[a];exact lt i h)
      rw[m]at a2;exact p _ _ _ a1 a2 t
     ·rw[aj c]at p;exact p.elim
   |_=>rw[e]at p;exact p.elim
 |_=>exact p.elim
end
def IC (a b:Value):checkTypeCall "enumerate" ⟨[a],[("start",b)]⟩=pure ():=by kernel_rfl
def He (a b:Value):checkBuiltinCall "enumerate.__new__" ⟨[.type "enumerate",a],[("start",b)]⟩=pure ():=by kernel_rfl
def F2 (o a b:Value):argsOk "object.__init__" ⟨[o,a],[("start",b)]⟩:=by unfold argsOk;kernel_rfl
abbrev Jh (h:Heap)(a:Addr):Heap:=(w6 h true a).push { cls:=.type "enumerate",data:=.fields #[.none,.bool false,.ref h.objs.size,rawInt 1,.none,.none] }
def HP (a:Addr)(items:Array Value)(t:Tok):
  Meets (Builtin.«enumerate.__new__» ⟨[.type "enumerate",.ref a],[("start",.int 1 t)]⟩) (λ_ R s=>s.heap.IsList a items/\R (.ok (.ret (.ref (w6 s.heap true a).objs.size))) { s with heap:=Jh s.heap a }):=
 .of_wp λprog w A R s h=>by
  obtain⟨p,g,d,tk,os⟩:=s;obtain⟨hT,h⟩:=h;have e:=sub_enumerate;obtain⟨⟨c,f,D,S⟩,H,b,n,hd⟩:=id hT
  replace b:c=.type "list":=b
  replace hd:D=.seq items n:=hd
  subst b hd
  wp_walk using wpAny_loadPart' H
  refine wpAny_stack_any λst=>cw ?_;split
  ·rename_i c _ _ _ _ _
   cases (c==Value.type "enumerate")<;>(wp_walk using wpAny_loadPart' H,wpAny_pyIter_list hT;exact⟨_,rfl,h⟩)
  ·wp_walk using wpAny_loadPart' H,wpAny_pyIter_list hT
   exact⟨_,rfl,h⟩
section
variable {prog:Program}{A:Around}
def FU {t:Tok}(v:s.heap.IsList a items)
  (h:∀h',IsEnum h' (s.heap.objs.size+1) s.heap.objs.size 1 .none->ju true h' s.heap.objs.size a 0->(∀b o,s.heap.get? b=some o->h'.get? b=some o)->Q (.ref (s.heap.objs.size+1)) { s with heap:=h' }):
  wpAny (model prog w) A (call (.type "enumerate") [.ref a] [("start",.int 1 t)]) Q E s:=by
 have d:=F.called_enumerate;obtain⟨c,T,q⟩:=d.mro;have m:=d.made;have p:=d.sub;have J:=d.notType;have I:=d.canCreate;have y:=IC (.ref a) (.int 1 t);refine wpAny_call (codeAny_of_tree ?_);show wpAny _ _ (callAny (.type "enumerate") _) _ _ _;refine cw ⟨Code.quiet_builtin _ (by decide +kernel),codeAny_builtin F.entry_type_call ?_⟩
 rw[Around.under_plain (weight_type_call_type "enumerate" [.ref a] [("start",.int 1 t)]) (units_type_call_type "enumerate" [.ref a] [("start",.int 1 t)])]
 repeat (any_goals (first|assumption|wp_step))
 have z:(w6 s.heap true a).objs.size=s.heap.objs.size+1:=bp ..;have he:IsEnum (Jh s.heap a) (w6 s.heap true a).objs.size s.heap.objs.size 1 .none:=au _ rfl;refine codeAny_mono (codeAny_call_builtin d.plain F.entry_enumerate_new (wpAny_of_eq (He _ _) (HP a items t prog w A.in1 (wants (λobj s1=>obj=.ref (w6 s.heap true a).objs.size/\s1={ s with heap:=Jh s.heap a }) E) s ⟨v,rfl,rfl⟩))) λr n l=>?_
 cases r with
 |error e=>exact l|ok D=>
  cases D with
  |ret obj=>
   obtain⟨rfl,rfl⟩:=l;have hT:Shared.TypeIs { s with heap:=Jh s.heap a } (.ref (w6 s.heap true a).objs.size) "enumerate":=⟨_,he,rfl⟩
   have u:=d.init.lookup;have B:=d.init.bind (.ref (w6 s.heap true a).objs.size)
   repeat (any_goals (first|assumption|wp_step))
   refine codeAny_mono (codeAny_call_builtin d.init.plain F.entry_object_init (d.init.check _ _ _ _ _ _ _ _ hT (F2 _ _ _) (?_:wpAny (model prog w) A.in1.in1 (Builtin.«object.__init__» ⟨[.ref (w6 s.heap true a).objs.size,.ref a],[("start",.int 1 t)]⟩) (λfin j=>match fin with|.done f=>wants (λr S=>r=.none/\S={ s with heap:=Jh s.heap a }) E (.ok f) j|.again C=>C.quiet=true/\codeAny (model prog w) A.in1 C (wants (λr S=>r=.none/\S={ s with heap:=Jh s.heap a }) E) j) (λe j=>wants (λr S=>r=.none/\S={ s with heap:=Jh s.heap a }) E (.error e) j) _))) λi S H=>?_
   ·repeat (any_goals (first|assumption|wp_step))
    exact⟨rfl,rfl⟩
   ·cases i with
    |error e=>exact H|ok g=>
     cases g with
     |ret r=>
      obtain⟨rfl,rfl⟩:=H
      repeat (any_goals (first|assumption|wp_step))
      rw[z]at he ⊢;exact h _ he (.mk ⟨_,ae _ (au _ rfl),rfl,rfl⟩) λb o x=>ae _ (ae _ x)
     |_=>exact H.elim
  |_=>exact l.elim
end
def Draws.on {prog:Program}{A:Around}{P:Nat->Value->Prop}{St:Nat->Heap->Prop}(D:Draws prog w A it fp n P St):Draws prog w A it fp (n+1) (λi=>P (i-1)) (λi h=>1<=i/\St (i-1) h) where
 live:=λi h st=>D.live _ h st.2
 frame:=λi h h' st k=>⟨st.1,D.frame _ h h' st.2 k⟩
 item:=λi s Q E b st H=>D.item (i-1) s Q E (by have:=st.1;omega) st.2 λx h' tk p q=>H x h' tk p ⟨by omega,by have:=st.1;rw[show i+1-1=i-1+1 by omega];exact q⟩
 done:=λs Q E st a=>D.done s Q E st.2 a
def MO (K:Frag)(a:Addr):It:=
 ⟨λi H=>∃xs x,yy true K H a xs/\xs[i]? =some x,λi H x h=>∃p y,(∀xs,yy true K H a xs->xs[i]? =some y)/\H p=none/\x=.ref p/\h=upd H p (.tup [.int ((i+1:Nat):Int),y]),λi H=>∃xs,yy true K H a xs/\xs.length=i⟩
def FY {K:Frag}(a n it:Addr):Turn P w K (.Tuple elts kk tpos) (MO K a) [n,it] n (λi h=>(∃old,IsEnum h n it ((i+1:Nat):Int) old)/\ju true h it a i/\n≠it) where
 mem:=by simp
 obj:=λi h st b f=>by
  obtain⟨⟨old,he⟩,g,_⟩:=st;rcases cy.mp f with rfl|f
  ·exact⟨_,he,λv z=>nomatch z⟩
  ·rw[cC.mp f]
   obtain⟨o,Q,_,hd⟩:=g.ob;exact⟨o,Q,λv z=>by rw[hd]at z;cases z⟩
 keep:=λi h h' ⟨⟨old,he⟩,g,ne⟩ kp=>⟨⟨old,kp n (by simp) _ he⟩,g.to λo p=>kp it (by simp) o p,ne⟩
 item:=by
  intro X hP hw hK Z i pins s σ H E I hf st S;subst hP hw hK;obtain⟨⟨old,he⟩,g,ne⟩:=st;obtain⟨xs,x,C,B⟩:=S;obtain⟨d,D,r,hz⟩:=I.sq C;obtain⟨u,hu,ru⟩:=D.get B;have hlt:i<d.toArray.size:=by simpa using (cA.mp hu).1
  obtain⟨oa,j,Y,na,e⟩:=r.ob;have A:a≠it:=λz=>by
   obtain⟨oi,c,U,m⟩:=g.ob;rw[<- z,j]at c;cases c;rw[m]at e;cases e
  have ane:n≠a:=λz=>by
   have t:s.heap.get? a=_:=z ▸ he;rw[j]at t;cases t;cases e
  refine wpAny_pyNext_enum_itemD (Draws.on (WD (k:=true) (items:=d.toArray) (I.ok.hd Z) A)) (i:=i+1) he ⟨by omega,g,r⟩ (by omega) ne (by simp[ne,ane]) λy h1 tk J Q N hT hsz hk=>?_
  have ey:y=u:=by
   have:d[i]? =some y:=by simpa using J
   rw[hu]at this;exact(aC this).symm
  subst ey;refine⟨_,rfl,wpAny_letOwnedTupleGo_enum Q λh2 T l=>?_⟩;have L:n<s.heap.objs.size:=aH he;have hT2:h2.get? s.heap.objs.size=some { cls:=.type "tuple",data:=.seq #[.int ((i+1:Nat):Int) tk,y] }:=l.extBut _ _ (bt L) hT;refine⟨.ref s.heap.objs.size,upd H s.heap.objs.size (.tup [.int ((i+1:Nat):Int),x]),?_,rfl,⟨s.heap.objs.size,x,λys J=>by rw[I.sq_inj J C];exact B,I.hok.fresh (ao _),rfl,rfl⟩,⟨⟨_,by simpa using T⟩,?_,ne⟩,λb f=>?_⟩
  ·refine I.spun (fp:=[n,it]) (t':=tk+1) (λb o f p=>?_) hf (ao _) ?_
   ·exact l.extBut _ _ (λz=>f (by simp[z])) (hk b o (λz=>f (by simp[z])) (λz=>f (by simp[z])) p)
   ·exact⟨by show 2<=sizeLine;decide,[.int ((i+1:Nat):Int) tk,y],.cons ⟨tk,rfl⟩ (.cons ru .nil),_,hT2,⟨rfl,rfl⟩,0,rfl⟩
  ·exact N.2.1.to λo p=>l.extBut _ _ (λz=>ne z.symm) p
  ·have bn:b≠s.heap.objs.size:=λz=>by
    rcases cy.mp f with q|q
    ·exact absurd L (by rw[<- q,z];exact a5 _)
    ·obtain⟨oi,c,_⟩:=g.ob
     exact absurd (aH c) (by rw[<- cC.mp q,z];exact a5 _)
   show upd H s.heap.objs.size _ b=none;rw[qx bn];exact(hf b f).1
 done:=by
  intro X hP hw hK Z i pins s σ H E I hf st S;subst hP hw hK;obtain⟨⟨old,he⟩,g,ne⟩:=st;obtain⟨xs,C,B⟩:=S;obtain⟨d,D,r,hz⟩:=I.sq C;have en':d.toArray.size=i:=by rw[aA,<- D.length];exact B
  obtain⟨oa,j,Y,na,e⟩:=r.ob;have A:a≠it:=λz=>by
   obtain⟨oi,c,U,m⟩:=g.ob;rw[<- z,j]at c;cases c;rw[m]at e;cases e
  refine wpAny_pyNext_enum_endD (WD (k:=true) (items:=d.toArray) (I.ok.hd Z) A) he ⟨by rw[en'];exact g,r⟩ λh1 M=>⟨rfl,?_⟩
  exact I.spun0 (fp:=[n,it]) (t':=s.toks) (λb o f p=>M b o (λz=>f (by simp[z])) p) hf
 self:=λ_ _ _ _ _ ⟨⟨_,he⟩,_⟩ h=>wpAny_pyIter_enum he h
def HE {A:Around}{T:String}{kws:cn}
  (h:wpAny M A (spliced (backTo pos (starEach [e] env))) (λvs S=>wpAny M A (evalAll ((backToKw pos (keywordEach kws env)).map (·.2)))
   (λkvs b=>wpAny M A (call (.type T) vs (((backToKw pos (keywordEach kws env)).filterMap (·.1)).zip kvs)) Q E b) E S) E s)
  (he:backTo pos (starEach [e] env)=(false,eval e env)::backTo pos (starEach [] env))(H:(backTo pos (starEach [e] env)).any (·.1)=false)
  (l:(backToKw pos (keywordEach kws env)).all (·.1.isSome)=true)(w:(backToKw pos (keywordEach kws env)).any (·.1.isNone)=false):
  wpAny M A (callWith pos (.type T) [] (backTo pos (starEach [e] env)) (backToKw pos (keywordEach kws env))) Q E s:=by
 unfold callWith;have f:wpAny M A (evalArgs (.type T) true (backTo pos (starEach [e] env)) (backToKw pos (keywordEach kws env))) (λa S=>wpAny M A (call (.type T) ([]++a.pos) a.kw) Q E S) E s:=by
  rw[he]at h ⊢;exact evalArgs_kwB l h
 refine cu (wpAny_holding (wpAny_mono f (λa S c=>cu (wpAny_standAt ?_)) λ_ _ x=>x));simp only[H,w,Bool.or_false];refine cu (cw ?_);exact cu (wpAny_mono c (λr b d=>cu (wpAny_holding (wpAny_point (cw d)))) λ_ _ x=>x)
section
variable {a b:Expr}
def EO {w:W}{k:Key}{K:Frag}(q:RV K φ H w v)(e:QB w=some k):v=kV k:=by
 cases w with
 |int i=>cases e;exact q|_=>cases e
def fR (K:Frag)(t:TA):TI:=λσ H R=>t σ H λvs H1=>∃p xs,vs=[.ref p]/\yy true K H1 p xs/\R (MO K p) H1
def Cr {j:Nat}{C kp:Pos}{t:TA}(m:Gl X "enumerate")(hm:X.mg "enumerate"=none)(o:PA X [a] t)(d:starEach [a] X.env=(false,eval a X.env)::starEach [] X.env):
  PI X (.Tuple elts kk tpos) (.Call (.Name "enumerate" p) [a] [⟨some "start",.Constant (.int 1) j C,kp⟩] pos) (fR X.K t):=by
 intro pins s σ H R I h;refine wpAny_Call_Name_kw (Zf I m hm boot_enumerate ?_ (by decide) (by decide))
 refine HE (zU (o pos pins s σ H _ I h) λus s1 ⟨vs,H1,i,f,Q⟩=>kwAll_cons (wpAny_Constant_int (kwAll_nil ?_))) (by rw[d];rfl) (by rw[d];rfl) rfl rfl
 obtain⟨p,xs,rfl,l,q⟩:=Q;obtain⟨u,rfl,r⟩:=f.one;cases r;have i:=i.tok (s1.toks+1);obtain⟨g,w,sq,x⟩:=i.sq l;refine FU (show Heap.IsList _ _ _ from sq) λh' e v E=>wpAny_pyIter_enum e ?_
 refine⟨s1.heap.objs.size+1,[s1.heap.objs.size+1,s1.heap.objs.size],_,_,H1,rfl,i.kept (t':=s1.toks+1) E,FY p _ _,⟨⟨_,by simpa using e⟩,v,Nat.succ_ne_self _⟩,λb n=>?_,q⟩
 have c:s1.heap.objs.size<=b:=by
  rcases cy.mp n with z|z
  ·rw[z];exact le_succ _
  ·rw[cC.mp z];exact ao _
 exact i.fpOk c (i.hok.fresh c)
def Jc (w:W)(n:Nat):jv:=⟨λA i=>match zW w A with
 |some ws=>atEnd ws i λx=>.tup [.int ((i+1:Nat):Int),x]|none=>none,n⟩
def WY (m:Ev):Ei:=λρ A=>(m ρ A).bind λw A1=>match w,zW w A1 with
 |.ref n,some ws=>.ok (Jc w ws.length) A1|_,_=>.bad
def GR (mk m:Ev):Ev:=λρ A=>(mk ρ (A++[.dct []])).bind λx A1=>(m ρ A1).bind λy A2=>match QB x,A2[A.length]? with
 |some k,some (.dct [])=>.ok (.ref A.length) (A2.set A.length (.dct [(k,y)]))|_,_=>.bad
end
def Zj (A:Hx):List W->Option (List (Nat×List W))
 |[]=>some []|.ref k::us=>match A[k]? with
  |some (.lst ws)=>if qH ws then(Zj A us).map ((k,ws)::·) else none|_=>none
 |_::_=>none
noncomputable def yQ (n m:Nat):O:=.lst ((List.range m).map λi=>W.ref (n+i))
def wH (f:Fn):Fn:=λus A=>if qH us then(match f us [] with
 |.ok (.ref n) A1=>(match A1[n]? with
  |some (.lst rs)=>(match Zj A1 rs with
   |some P=>if (P.map (·.1)).Nodup then .ok (.ref (A.length+P.length)) (A++P.map (λp=>O.lst p.2)++[yQ A.length P.length]) else .bad|none=>.bad)
  |_=>.bad)
 |_=>.bad) else .bad
section
variable {K:Frag}{φ1:b5}{H1:Hp}
theorem P0:∀{us:List W}{P:List (Nat×List W)},Zj A us=some P->us=P.map (λp=>W.ref p.1)/\∀p∈P,A[p.1]? =some (.lst p.2)/\qH p.2=true
 |[],_,h=>by cases h;exact⟨rfl,λp H=>by cases H⟩|u::us,P,h=>by
  cases u with
  |ref k=>
   unfold Zj at h;cases e:A[k]? with
   |none=>rw[e]at h;cases h|some o=>cases o with
    |lst ws=>
     rw[e]at h;dsimp only at h
     by_cases hn:qH ws=true
     ·rw[ah hn]at h
      cases E:Zj A us with
      |none=>rw[E]at h;cases h|some r=>
       rw[E]at h;cases h;obtain⟨a1,a2⟩:=P0 E;refine⟨by rw[a1];rfl,λp H=>?_⟩
       rcases cy.mp H with rfl|H
       ·exact⟨e,hn⟩
       ·exact a2 p H
     ·rw[aj hn]at h;cases h
    |_=>rw[e]at h;cases h
  |_=>cases h
theorem zL.more (s:zL K φ1 A1 H1):∀(P:List (Nat×List W)){φ:b5}{A:Hx},(∀p∈P,A1[p.1]? =some (.lst p.2)/\qH p.2=true)->(P.map (·.1)).Nodup->zL K φ A H1->
  (∀p∈P,∀a,φ1[p.1]? =some a->∀(j:Nat)(q:O),φ[j]? =some a->A[j]? =some q->q.mut=false)->
  ∃as:b5,as.length=P.length/\(∀i,i<P.length->φ1[(P.getD i (0,[])).1]? =as[i]?)/\zL K (φ++as) (A++P.map λp=>O.lst p.2) H1
 |[],φ,A,_,_,S,_=>⟨[],rfl,λi d=>absurd d (not_lt_zero _),by simpa using S⟩|p::P,φ,A,c,nd,S,fr=>by
  obtain⟨m,v⟩:=c p (ay ..);obtain⟨a,f,r⟩:=s.ob _ _ m;obtain⟨u,t,_⟩:=r.there rfl;rw[aF,nodup_cons]at nd;have x:=S.trackN t (λk q e E=>fr p (ay ..) a f k q e E) (o:=.lst p.2) (r.nrL v);obtain⟨as,l,d,w⟩:=zL.more s P (λq H=>c q (aw _ H)) nd.2 x (λq H b n j o e E=>by
   by_cases g:j < φ.length
   ·rw[ai g]at e
    rw[ai (by rw[<- S.len];exact g)]at E
    exact fr q (aw _ H) b n j o e E
   ·have lt:=(cA.mp e).1
    rw[aB,bj]at lt;obtain rfl:j=φ.length:=by omega
    rw[ar (ao _)]at e;simp at e;subst e
    have:=s.inj _ _ _ _ _ f n m (c q (aw _ H)).1 rfl rfl
    exact absurd (cz.mpr ⟨q,H,this.symm⟩) nd.1)
  refine⟨a::as,by simp[l],λi h=>?_,by simpa using w⟩
  cases i with
  |zero=>exact f|succ i=>simpa using d i (by simpa using h)
def Le.news {as:b5}(l:Le K [] H φ1 H1)(h:∀a∈as,H a=none):Le K φ H (φ++as) H1 where
 ex:=λn a e=>by
  have:=(cA.mp e).1
  rw[ai this];exact e
 tp:=l.tp
 fr:=λa o e _=>l.fr a o e λn e=>by simp at e
 nw:=λn a e=>by
  by_cases hn:n < φ.length
  ·rw[ai hn]at e;exact .inl e
  ·rw[ar (by omega)]at e
   exact .inr (h a (bO e))
 st:=l.st
 fz:=l.fz
theorem Nk {m:Nat}:∀{P:List (Nat×List W)}{as:b5}{vs:List V}{ψ:b5},as.length=P.length->(∀i,i<P.length->φ1[(P.getD i (0,[])).1]? =as[i]?)->zu K φ1 H1 (P.map λp=>W.ref p.1) vs->(∀i,i<as.length->ψ[m+i]? =as[i]?)->zu K ψ H1 ((List.range' m as.length).map λi=>W.ref i) vs
 |[],[],_,_,_,_,h,_=>h|[],_::_,_,_,l,_,_,_=>by cases l|_::_,[],_,_,l,_,_,_=>by cases l|p::P,a::as,_,ψ,l,hi,⟨v,r,e,⟨b,c,E⟩,t⟩,H=>by
  subst e c;have h0:φ1[p.1]? =some a:=hi 0 (zero_lt_succ _);rw[h0]at E;cases E;refine⟨.ref a,r,rfl,⟨a,rfl,H 0 (zero_lt_succ _)⟩,?_⟩;exact Nk (m:=m+1) (by simpa using l) (λi h=>by simpa using hi (i+1) (by simpa using h)) t λi h=>by
   have:=H (i+1) (by simpa using h)
   rw[show m+(i+1)=m+1+i by omega]at this
   simpa using this
theorem zK.wH {k:Nat}{f:Fn}(F:zK P w K mg base k x n f):zK P w K mg base k x n (wH f):=by
 obtain⟨fa,fd,ps,F,a,b,c⟩:=F;refine⟨fa,fd,ps,F.imp λvs H Q E ⟨hl,φ,A,ws,S,r,q⟩=>?_,a,b,c⟩;unfold Mi.wH at q
 by_cases hn:qH ws=true
 ·rw[ah hn]at q
  refine⟨hl,[],[],ws,zL.none,r.nrm (λ_ _ t=>t) (λ_ _ _ t=>t) hn,?_⟩;cases hf:f ws [] with
  |ok w A1=>
   rw[hf]at q;intro C H1 v U Z q1;cases w with
   |ref m=>
    dsimp only at q;cases hm:A1[m]? with
    |none=>rw[hm]at q;exact q.elim|some o=>cases o with
     |lst rs=>
      rw[hm]at q;dsimp only at q;cases hi:Zj A1 rs with
      |none=>rw[hi]at q;exact q.elim|some qs=>
       rw[hi]at q;dsimp only at q
       by_cases nd:(qs.map (·.1)).Nodup
       ·rw[ah nd]at q
        obtain⟨er,M⟩:=P0 hi;obtain⟨la,kk⟩:=U.apart (φ:=φ);have new:∀(j:Nat) b,C[j]? =some b->H b=none:=λj b e=>by
         rcases U.nw j b e with e|e
         ·simp at e
         ·exact e
        have old:∀b,H b=none->∀(j:Nat)(o:O),φ[j]? =some b->A[j]? =some o->o.mut=false:=λb h0 j o g u=>by
         cases hm:o.mut with
         |false=>rfl|true=>
          obtain⟨b',d,r⟩:=S.ob j o u;rw[g]at d;cases d;obtain⟨z,hz,_⟩:=r.there hm;rw[h0]at hz;cases hz
        obtain⟨as,s,J,S2⟩:=zL.more Z qs M nd (S.frame kk la) (λp D b eb j o g u=>old b (new _ b eb) j o g u);obtain⟨B,N,T,hv,rv⟩:=Z.ob m _ hm;obtain⟨a2,rfl,L⟩:=q1;rw[N]at L;cases L;rw[er]at rv;have I:∀b∈as,∃p∈qs,C[p.1]? =some b:=λb l=>by
         obtain⟨i,h1,rfl⟩:=aW l;have X:i<qs.length:=by omega
         have:=J i X
         rw[aa h1,ab,aa X]at this;exact⟨qs[i],aS X,this⟩
        have ho:OR K (φ++as++[B]) H1 B (yQ A.length qs.length):=by
         refine⟨T,hv,?_⟩
         have:=Nk (K:=K) (H1:=H1) (m:=A.length) (ψ:=φ++as++[B]) s J rv λi h=>by
          rw[aU,ar (by rw[S.len];omega),S.len,ai (by omega)]
          congr 1
          omega
         rw[s]at this;rw[List.range'_eq_map_range,aI]at this;exact this
        have S3:=S2.trackN hv (λj o g u=>by
         by_cases hj:j < φ.length
         ·rw[ai hj]at g
          rw[ai (by rw[<- S.len];exact hj)]at u
          exact old _ (new _ _ N) j o g u
         ·rw[ar (by omega)]at g
          obtain⟨p,D,Y⟩:=I B (bO g);have hh:=Z.inj _ _ _ _ _ Y N (M p D).1 hm rfl rfl;have d:=(M p D).1;rw[hh,hm]at d;injection d with d
          injection d with d
          have nn:=(M p D).2;rw[<- d,er]at nn;cases qs with
          |nil=>cases D|cons _ _=>cases nn) ho
        refine q (φ++as++[B]) H1 _ ?_ S3 ⟨B,rfl,?_⟩
        ·rw[aU]
         refine U.news λb l=>?_;rcases List.mem_append.mp l with l|l
         ·obtain⟨p,_,Y⟩:=I b l
          exact new _ b Y
         ·rw[cC.mp l];exact new _ _ N
        ·rw[<- s,<- S.len,<- aB];simp
       ·rw[aj nd]at q;exact q.elim
     |_=>rw[hm]at q;exact q.elim
   |_=>exact q.elim
  |exc y A1=>rw[hf]at q;exact q.elim|bad=>rw[hf]at q;exact q.elim
 ·rw[aj hn]at q;exact q.elim
end
section
variable {a b:Expr}{lo hi:Option Expr}{K:Frag}
def ZR:W->W->Hx->R W:=λx y A=>match x,y with
 |.int i,.int j=>.ok (.bl (decide (i<j))) A|.tup xs,.tup Y=>match intsOf xs,intsOf Y with
  |some k,some l=>.ok (.bl (gf k l)) A|_,_=>.bad
 |_,_=>.bad
def fS:∀x y A,qJ (ZR x y A):=λx y A=>by
 unfold ZR
 split
 ·exact jy
 ·split
  ·exact jy
  ·exact qA
 ·exact qA
def MX (K:Frag):R2:=λx y H Q=>(gm λi j=>.bl (decide (i<j))) x y H Q∨MU K x y H Q
def fT (b:X.A.units<cLine):qG X (compareOp .Lt) (MX X.K):=by
 intro pins s σ H x y v u Q I a r h;rcases h with h|h
 ·exact Mn pins s σ H x y v u Q I a r h
 ·exact dW b pins s σ H x y v u Q I a r h
def BU:jY K (MX K) ZR:=λφ A H x y u v Q S c q p=>by
 unfold ZR at p
 split at p
 ·obtain rfl:=c;obtain rfl:=q
  exact .inl ⟨_,_,rfl,rfl,p φ H _ .refl S rfl⟩
 ·split at p
  ·rename_i k l f E
   rw[Qc f]at c;rw[Qc E]at q;obtain⟨a,vs,rfl,t1,d⟩:=c;obtain⟨b,us,rfl,t,r⟩:=q;have e:=zu.ints.mp d;have h:=zu.ints.mp r;subst e h;refine .inr ⟨a,b,k,l,rfl,rfl,t1,t,?_⟩;rw[Vf];exact p φ H _ .refl S rfl
  ·exact p.elim
 ·exact p.elim
def fU {k:Nat}(h:jx k X.A):ky X .Lt ZR:=ZM (fT (by have:=h.units;omega)) fS BU
def fV:KG X (λx lo i H Q=>M1 X.K x lo i H Q∨MD X.K x lo i H Q):=by
 intro pins s σ H x v l u lo i S Q I r a p pu h;rcases h with h|h
 ·exact Be pins s σ H x v l u lo i S Q I r a p pu h
 ·exact Bq pins s σ H x v l u lo i S Q I r a p pu h
def kz (m:Ev)(p pu:Po):Ev:=λρ A=>(m ρ A).bind λw A1=>(p ρ A1).bind λl A2=>(pu ρ A2).bind λu a=>match w with
 |.tup ws=>.ok (.tup (w8 ws l u)) a|.ref n=>match a[n]? with
  |some (.lst ws)=>.ok (.ref a.length) (a++[.lst (w8 ws l u)])|_=>.bad
 |_=>.bad
theorem W4:∀{vs:b4}{ks:b3}(i:Nat),IntsAre vs ks->i<ks.length->∃t,vs.getD i Value.none=.int (ks.getD i 0) t
 |_,_,_,.nil,h=>by simp at h|_,_,0,.cons a t _,_=>⟨t,rfl⟩|_,_,i+1,.cons _ _ r,h=>W4 i r (by simpa using h)
theorem Vw:∀{vs:b4}{ks:b3},IntsAre vs ks->vs.length=ks.length
 |_,_,.nil=>rfl|_,_,.cons _ _ r=>by rw[aN,aN,Vw r]
def E5 {prog:Program}{A:Around}{ks:b3}(T:IntsAre vs ks):Y2 (O:=IO) prog w A oneType' vs ks 0 s where
 kind:=λc Q E h=>kas_kind (T:=.type "int") c (λv a=>by
  obtain⟨i,H,rfl⟩:=aW a;obtain⟨t,e⟩:=W4 i T (by rw[<- Vw T];exact H)
  have e:vs[i]=.int (ks.getD i 0) t:=by simpa[H] using e
  rw[e];exact Looks.of_pure rfl) (by decide) (by decide) h
 lt:=λi j H b Q E h=>by
  obtain⟨t,e⟩:=W4 i T H;obtain⟨u,d⟩:=W4 j T b;rw[e,d,keyLt'_oneType];exact oneLt_int h
def HG:jN X (.builtin "sorted") (λxs H Q=>∃(p:Addr) (ks:b3),xs=[.ref p]/\qC X.K H p (ks.map V.int)/\ks.length<64/\
  ∀l,H l=none->Q (.ref l) (upd H l (.lst ((jz (O:=IO) ks).map V.int)))):=by
 intro pins s σ H xs us Q I r h;obtain⟨p,ks,rfl,j,t,q⟩:=h;obtain⟨u,rfl,f⟩:=vals1 r;cases f;obtain⟨g,v,⟨o,k,z,y,C,x⟩,A⟩:=I.list j;have T:=intsAre_of v;have m:=Vw T;refine X6 (O:=IO) (d0:=0) ⟨o,z,y,k,x⟩ m (λD h' tk B kp=>E5 T) (by omega) λh' a p c e pm w n kp=>?_
 have lt:∀i∈p.toList,i<ks.length:=λi b=>by
  have:=(Array.perm_iff_toList_perm.mp pm).mem_iff.mp b
  simpa using this
 have P:p.toList.length=ks.length:=by rw[aO,pm.size_eq];simp
 have S:=Vals.sel v p.toList λi b=>by simpa using lt i b
 have E:(p.toList.map λi=>(ks.map V.int).getD i .non)=(jz (O:=IO) ks).map V.int:=by
  rw[<- w,aI];refine aL λi b=>?_;have d:=lt i b;simp[d]
 rw[E]at S;refine⟨.ref a,_,I.laid (t':=s.toks) (o:=.lst ((jz (O:=IO) ks).map V.int)) kp e ⟨?_,_,c,S,n⟩,rfl,q _ (I.hok.fresh e)⟩;rw[<- E,ag,P,sizeLine_eq];omega
def ZJ:W->Hx->R W:=λw A=>match w with
 |.ref n=>match A[n]? with
  |some (.lst ws)=>match intsOf ws with
   |some ks=>if ks.length<64 then .ok (.ref A.length) (A++[.lst ((jz (O:=IO) ks).map W.int)]) else .bad|none=>.bad
  |_=>.bad
 |_=>.bad
def Bd:∀x A,qJ (ZJ x A):=λx A=>by
 unfold ZJ
 split
 ·split
  ·split
   ·exact wX jy qA
   ·exact qA
  ·exact qA
 ·exact qA
def ET:KJ K (λv H Q=>∃(p:Addr) (ks:b3),[v]=[.ref p]/\qC K H p (ks.map V.int)/\ks.length<64/\
  ∀l,H l=none->Q (.ref l) (upd H l (.lst ((jz (O:=IO) ks).map V.int)))) ZJ:=λφ A H x u Q S q p=>by
 unfold ZJ at p;cases u with
 |ref n=>
  dsimp only at p;cases e:A[n]? with
  |none=>rw[e]at p;exact p.elim|some o=>cases o with
   |lst us=>
    rw[e]at p;dsimp only at p;cases E:intsOf us with
    |none=>rw[E]at p;exact p.elim|some ks=>
     rw[E]at p;dsimp only at p
     by_cases c:ks.length<64
     ·rw[ah c]at p
      obtain⟨P,y,rfl,_,a,r⟩:=S.lst q e;rw[Qc E]at r;have ev:=zu.ints.mp r;subst ev;refine⟨P,ks,rfl,qC.of a,c,λl h=>?_⟩;obtain⟨a1,a2,b⟩:=gG S h (zu.ints.mpr rfl);exact p _ _ _ a1 a2 b
     ·rw[aj c]at p;exact p.elim
   |_=>rw[e]at p;exact p.elim
 |_=>exact p.elim
end
@[irreducible] noncomputable def GF (X:Cx)(x:XR)(e:cc)(ms:List Ev):Prop:=Mi.SJ X x e ms
def Nw:@GF=@Mi.SJ:=by
 funext X xr es ms
 unfold GF
 rfl
section
def k9:@zw=@Mi.SE/\@gX=@Mi.SA/\@yE=@Mi.ST/\@gu=@Mi.SW/\@yU=@Mi.SS/\@wd=@Mi.KA/\@ki=@Mi.SI/\@wq=@Mi.SG/\@Z0=@Mi.SF/\@wJ=@Mi.SQ/\@gK=@Mi.KH/\@gn=@Mi.SM/\@GF=@Mi.SJ:=⟨VJ,V0,VX,VN,VT,Vj,VD,VL,VM,VR,Vq,VW,Nw⟩
def WL (he:zw X xr e m)(g:wq X tg tw)(f:swapsWithSole [tg] e pos.line X.env=pure false:=by rfl)(hw:swappedStores [tg] e X.env=pure none:=by rfl)(a:(assignEach [tg] X.env).map (·.2)=[assign tg X.env]:=by rfl):yU X xr (.Assign [tg] e pos) (Zr m tw):=by
 try simp only[k9]at*
 exact PS.imp (NU he g f hw a) λD σ H ⟨φ,A,ρ,S,re,h⟩=>by
   refine tM.go S re (z0.mp h) λw A1 b H1 v a l s q=>?_;cases E:tw w ρ with
   |none=>rw[E]at a;exact a.elim|some d=>
    rw[E]at a;exact⟨b,A1,ρ,w,d,s,re.mono l,q,E,λc r=>a b H1 c l s r⟩
end
def F6 {a:Expr}{b:Expr}{ma:Ev}{mb:Ev}{k:Nat}(r:jx k X.A)(o:zw X xr a ma)(he:zw X xr b mb)(s:starEach [b] X.env=(false,eval b X.env)::starEach [] X.env:=by rfl)
  (e:attributeBase a "index" X.env (eval a X.env)=eval a X.env:=by rfl)
  (w:((backTo cpos (starEach [b] X.env)).all (λx=>!x.1)&&(backToKw cpos (keywordEach [] X.env)).all (λx=>x.1.isSome)
   && decide ([b].length+([]:cn).length+(if ([]:cn).isEmpty then 0 else 1)<30))=true:=by rfl)(h:(apos.endLine==cpos.line)=true:=by rfl):
  zw X xr (.Call (.Attribute a "index" apos) [b] [] cpos) (yK Zg ma mb):=by
 try simp only[k9]at*
 exact Ug PySem.F.slot_list_index PySem.F.type_list_index (E7 r.units) C5 (λφ A H x y u v Q S i q p=>by
   unfold Zg at p;cases E:qc A 8 u with
   |none=>rw[E]at p;exact p.elim|some D=>
    cases g:qc A 8 v with
    |none=>
     rw[E,g]at p;cases D<;>exact p.elim
    |some d=>
     rw[E,g]at p;cases D with
     |list ds=>
      dsimp only at p;cases f:Zl (λz=>PyData.eqv z d) ds with
      |none=>rw[f]at p;exact p.elim|some j=>
       rw[f]at p;dsimp only at p
       by_cases c:j<1000000
       ·rw[ah c]at p
        exact⟨φ,A,u,v,y,d,ds,j,rfl,S,i,q,E,g,f,c,p φ H _ .refl S rfl⟩
       ·rw[aj c]at p;exact p.elim
     |_=>exact p.elim) o he s e w h
def HZ {P pos':Pos}(B:X.calm=true)(hm:X.mg "sorted"=none)(d:X.mg "set"=none)(T:zw X xr e m)(N:Gl X "sorted":=by rfl)(g:Gl X "set":=by rfl)(y:starEach [e] X.env=(false,eval e X.env)::starEach [] X.env:=by rfl)
  (c:starEach [.Call (.Name "set" P) [e] [] pos'] X.env=(false,eval (.Call (.Name "set" P) [e] [] pos') X.env)::starEach [] X.env:=by rfl):
  zw X xr (.Call (.Name "sorted" p) [.Call (.Name "set" P) [e] [] pos'] [] pos) (Wy m):=by
 try simp only[k9]at*
 exact PE.imp (JK (Hv B) N hm (by rfl) (jq (Qd (Dn B) g d (by rfl) (jq T jP y) (by decide) (by decide) y (by rfl)) jP c) (by decide) (by decide) c (by rfl)) λσ H Q ⟨φ,A,ρ,S,re,h⟩=>by
   refine tM.go S re (z0.mp h) λw A1 b H1 v a J t D=>?_;cases w with
   |ref n=>
    unfold X8 at a;dsimp only at a;cases E:A1[n]? with
    |none=>rw[E]at a;exact a.elim|some u=>cases u with
     |lst ws=>
      rw[E]at a;dsimp only at a;obtain⟨x,ys,rfl,Y,eH,C⟩:=t.lst D E;cases j:intsOf ws with
      |none=>rw[j]at a;exact a.elim|some is=>
       rw[j]at a;dsimp only at a;have Z:=Qc j;subst Z;have ev:=zu.ints.mp C;subst ev;cases s:Qn is with
       |none=>rw[s]at a;exact a.elim|some vs=>
        rw[s]at a;dsimp only at a;obtain⟨e3,U⟩:=RZ s;have q:H1 x=some (.lst (vs.map λ(v:Nat)=>V.int (v:Int))):=by rw[eH,e3,aI];rfl
        refine⟨x,vs,rfl,qC.of q,U,λl z=>⟨l,vs.foldl yr 0,rfl,jO,λI f=>?_⟩⟩;have ln:Le X.K b H1 b (upd H1 l (.ext λh=>yt h l (jJ X.w) (vs.foldl yr 0))):=Le.new z;have S2:=t.lay (u:=.ext λh=>yt h l (jJ X.w) (vs.foldl yr 0)) z;have r:∀(ψ:b5)(G:Hp),zu X.K ψ G (((List.range 8).filter λi=>decide (i∈vs)).map λ(i:Nat)=>W.int (i:Int)) ((qb (vs.foldl yr 0)).map λ(v:Nat)=>V.int (v:Int)):=λψ G=>by
         rw[EZ];have e4:∀l:b7,zu X.K ψ G (l.map λ(i:Nat)=>W.int (i:Int)) (l.map λ(v:Nat)=>V.int (v:Int)):=λl=>by
          induction l with
          |nil=>rfl|cons i l M=>exact⟨_,_,rfl,rfl,M⟩
         exact e4 _
        obtain⟨L,S3⟩:=S2.alloc (o:=.lst (((List.range 8).filter λi=>decide (i∈vs)).map λ(i:Nat)=>W.int (i:Int))) f (u:=.lst ((qb (vs.foldl yr 0)).map λ(v:Nat)=>V.int (v:Int))) ⟨_,jO,r _ _⟩;exact a _ _ _ (J.trans (ln.trans L)) S3 ⟨I,rfl,by rw[<- t.len];simp⟩
     |_=>rw[E]at a;exact a.elim
   |_=>exact a.elim
def Cv {a:Expr}{b:Expr}{ma:Ev}{mb:Ev}(c:X.calm=true)(hm:X.mg "sum"=none)(e:zw X xr a ma)(d:zw X xr b mb)(H:Gl X "sum":=by rfl)(g:starEach [a,b] X.env=(false,eval a X.env)::starEach [b] X.env:=by rfl)
  (f:starEach [b] X.env=(false,eval b X.env)::starEach [] X.env:=by rfl)(h:(backTo pos (starEach [b] X.env)).any (·.1)=false:=by rfl):
  zw X xr (.Call (.Name "sum" p) [a,b] [] pos) (zi ZO ma mb):=by
 try simp only[k9]at*
 exact V9 (EV c) Ay CO hm (by rfl) e d H (by decide) (by decide) g f h
def RW {a:Expr}{b:Expr}{ma:Ev}{mb:Ev}{P pos':Pos}(E:X.calm=true)(hm:X.mg "list"=none)(n:X.mg "range"=none)(J:zw X xr a ma)(I:zw X xr b mb)(D:Gl X "list":=by rfl)(o:Gl X "range":=by rfl)(s:starEach [a,b] X.env=[(false,eval a X.env),(false,eval b X.env)]:=by rfl)(d:starEach [b] X.env=[(false,eval b X.env)]:=by rfl)
  (g:starEach [.Call (.Name "range" P) [a,b] [] pos'] X.env=(false,eval (.Call (.Name "range" P) [a,b] [] pos') X.env)::starEach [] X.env:=by rfl):
  zw X xr (.Call (.Name "list" p) [.Call (.Name "range" P) [a,b] [] pos'] [] pos) (QY ma mb):=by
 try simp only[k9]at*
 exact PE.imp (Qd (Ff E) D hm (by rfl) (jq (Ou o n (jq J (jq I jP (by rw[d];rfl)) (by rw[s,d])) s d) jP g) (by decide) (by decide) g (by rfl)) λσ H Q ⟨φ,A,ρ,S,re,h⟩=>by
   refine tM.go S re (z0.mp h) λw A1 r H1 v M L Z y=>?_;refine tM.go Z (re.mono L) (qt (z0.mp M) (λ_ _ z=>z) λ_ _ z=>z.mono L) λt A2 c m v2 e B Y x=>?_;cases w with
   |int i=>
    obtain rfl:=y;cases t with
    |int j=>
     obtain rfl:=x;dsimp only at e
     by_cases f:(je i&&(je j&&decide ((j-i).toNat<=zQ)))=true
     ·rw[ah f]at e
      rw[ak,ak,af]at f;refine⟨i,j,rfl,λp q=>⟨p,i,j,rfl,jO,gz f.1,gz f.2.1,gA f.2.2,λl C=>?_⟩⟩;have ln:Le X.K c m c (upd m p (.rng i j)):=Le.new q;have u:zu X.K c (upd m p (.rng i j)) ((List.range (j-i).toNat).map λ(k:Nat)=>W.int (i+k)) (kC i (j-i).toNat):=by
       have:=(zu.ints (K:=X.K) (φ:=c) (H:=upd m p (.rng i j)) (ns:=(List.range (j-i).toNat).map λ(k:Nat)=>(i+(k:Int))) (vs:=kC i (j-i).toNat)).mpr (by unfold kC;simp)
       rw[aI]at this;exact this
      obtain⟨U,T,N⟩:=gG (Y.lay q) C u;exact e _ _ _ (((L.trans B).trans ln).trans U) T N
     ·rw[aj f]at e;exact e.elim
    |_=>exact e.elim
   |_=>exact e.elim
@[irreducible] noncomputable def Jq (X:Cx)(x:XR)(e:Option Expr)(p:Po):Prop:=Mi.SP X x e p
def fW:@Jq=@Mi.SP:=by
 funext X xr e p
 unfold Jq
 rfl
def V1:@zw=@Mi.SE/\@gX=@Mi.SA/\@yE=@Mi.ST/\@gu=@Mi.SW/\@yU=@Mi.SS/\@wd=@Mi.KA/\@ki=@Mi.SI/\@wq=@Mi.SG/\@Z0=@Mi.SF/\@wJ=@Mi.SQ/\@gK=@Mi.KH/\@gn=@Mi.SM/\@GF=@Mi.SJ/\@Jq=@Mi.SP:=⟨VJ,V0,VX,VN,VT,Vj,VD,VL,VM,VR,Vq,VW,Nw,fW⟩
def Y3:Jq X xr none we:=by
 try simp only[V1]at*
 exact PO.imp AO λσ H Q ⟨φ,A,ρ,S,re,h⟩=>h φ H .refl S
def YW (c:zw X xr e m):Jq X xr (some e) (wc m):=by
 try simp only[V1]at*
 exact PO.imp (Bn c) λσ H Q ⟨φ,A,ρ,S,re,h⟩=>by
  refine tM.go S re (z0.mp h) λw A1 a H1 v b l s q=>?_;cases w with
  |int i=>obtain rfl:=q;exact⟨i,rfl,b a H1 l s⟩|_=>exact b.elim
def Cp {k:Nat}{o i:Expr}{mo mi:Ev}(H:jx k X.A)(he:zw X xr e m)(a:zw X xr o mo)(b:zw X xr i mi)
  (h:swapsWithSole [.Subscript o i tpos] e pos.line X.env=pure false:=by rfl)(hw:swappedStores [.Subscript o i tpos] e X.env=pure none:=by rfl)
  (d:(assignEach [.Subscript o i tpos] X.env).map (·.2)=[assign (.Subscript o i tpos) X.env]:=by rfl)
  (c:∀v,assign (.Subscript o i tpos) X.env v=(do
   let ov <- holding [v] (eval o X.env)
   let iv <- holding [v,ov] (eval i X.env)
   standAt tpos
   holding [v,ov,iv] (setItem ov iv v)
   release [v,ov,iv] []):=by intro _;rfl):yU X xr (.Assign [.Subscript o i tpos] e pos) (wV Zi m mo mi):=by
 try simp only[k9]at*
 exact PQ (set_dict H) BW DV he a b h hw d c
def JJ {a b:Expr}{ma mb:Ev}(H:zw X xr a ma)(h:zw X xr b mb):zw X xr (.BinOp a .FloorDiv b pos) (zi Zk ma mb):=by
 try simp only[k9]at*
 exact Q6 DM Uj (VY DY λ_ _ _ _=>rfl) H h
def Ef {a b:Expr}{ma mb:Ev}{P pos':Pos}(E:X.calm=true)(hm:X.mg "tuple"=none)(n:X.mg "range"=none)(J:zw X xr a ma)(I:zw X xr b mb)(D:Gl X "tuple":=by rfl)(o:Gl X "range":=by rfl)(s:starEach [a,b] X.env=[(false,eval a X.env),(false,eval b X.env)]:=by rfl)(d:starEach [b] X.env=[(false,eval b X.env)]:=by rfl)
  (g:starEach [.Call (.Name "range" P) [a,b] [] pos'] X.env=(false,eval (.Call (.Name "range" P) [a,b] [] pos') X.env)::starEach [] X.env:=by rfl):
  zw X xr (.Call (.Name "tuple" p) [.Call (.Name "range" P) [a,b] [] pos'] [] pos) (J2 ma mb):=by
 try simp only[k9]at*
 exact PE.imp (Qd (RK E) D hm (by rfl) (jq (Ou o n (jq J (jq I jP (by rw[d];rfl)) (by rw[s,d])) s d) jP g) (by decide) (by decide) g (by rfl)) λσ H Q ⟨φ,A,ρ,S,re,h⟩=>by
   refine tM.go S re (z0.mp h) λw A1 r H1 v M L Z y=>?_;refine tM.go Z (re.mono L) (qt (z0.mp M) (λ_ _ z=>z) λ_ _ z=>z.mono L) λt A2 c m v2 e B Y x=>?_;cases w with
   |int i=>
    obtain rfl:=y;cases t with
    |int j=>
     obtain rfl:=x;dsimp only at e
     by_cases f:(je i&&(je j&&decide ((j-i).toNat<=zQ)))=true
     ·rw[ah f]at e
      rw[ak,ak,af]at f;refine⟨i,j,rfl,λp q=>⟨p,i,j,rfl,jO,gz f.1,gz f.2.1,gA f.2.2,λl C=>?_⟩⟩;have ln:Le X.K c m c (upd m p (.rng i j)):=Le.new q;have u:zu X.K c (upd m p (.rng i j)) ((List.range (j-i).toNat).map λ(k:Nat)=>W.int (i+k)) (kC i (j-i).toNat):=by
       have:=(zu.ints (K:=X.K) (φ:=c) (H:=upd m p (.rng i j)) (ns:=(List.range (j-i).toNat).map λ(k:Nat)=>(i+(k:Int))) (vs:=kC i (j-i).toNat)).mpr (by unfold kC;simp)
       rw[aI]at this;exact this
      obtain⟨U,T,N⟩:=Ze (Y.lay q) C u;exact e _ _ _ (((L.trans B).trans ln).trans U) T N
     ·rw[aj f]at e;exact e.elim
    |_=>exact e.elim
   |_=>exact e.elim
def F5 {a:Expr}{ma:Ev}{P pos':Pos}(t:X.calm=true)(hm:X.mg "tuple"=none)(f:X.mg "range"=none)(u:zw X xr a ma)(o:Gl X "tuple":=by rfl)(g:Gl X "range":=by rfl)(s:starEach [a] X.env=[(false,eval a X.env)]:=by rfl)
  (d:starEach [.Call (.Name "range" P) [a] [] pos'] X.env=(false,eval (.Call (.Name "range" P) [a] [] pos') X.env)::starEach [] X.env:=by rfl):
  zw X xr (.Call (.Name "tuple" p) [.Call (.Name "range" P) [a] [] pos'] [] pos) (JX ma):=by
 try simp only[k9]at*
 exact PE.imp (Qd (ER t) o hm (by rfl) (jq (Nr g f (jq u jP (by rw[s];rfl)) s) jP d) (by decide) (by decide) d (by rfl)) λσ H Q ⟨φ,A,ρ,S,re,h⟩=>by
   refine tM.go S re (z0.mp h) λw A1 b H1 v c L z q=>?_;cases w with
   |int j=>
    obtain rfl:=q;dsimp only at c
    by_cases e:(je j&&decide (j.toNat<=zQ))=true
    ·rw[ah e]at c
     rw[ak,af]at e;refine⟨j,rfl,λp m=>⟨p,j,rfl,jO,gz e.1,gA e.2,λl n=>?_⟩⟩;have ln:Le X.K b H1 b (upd H1 p (.rng 0 j)):=Le.new m;have r:zu X.K b (upd H1 p (.rng 0 j)) ((List.range j.toNat).map λ(i:Nat)=>W.int i) (wI j.toNat):=by
      have:=(zu.ints (K:=X.K) (φ:=b) (H:=upd H1 p (.rng 0 j)) (ns:=(List.range j.toNat).map λ(i:Nat)=>(i:Int)) (vs:=wI j.toNat)).mpr (by unfold wI;simp)
      rw[aI]at this;exact this
     obtain⟨y,x,B⟩:=Ze (z.lay m) n r;exact c _ _ _ ((L.trans ln).trans y) x B
    ·rw[aj e]at c;exact c.elim
   |_=>exact c.elim
def R3 (C:X.calm=true)(hm:X.mg "sorted"=none)(o:zw X xr e m)(j:Gl X "sorted":=by rfl)(s:starEach [e] X.env=(false,eval e X.env)::starEach [] X.env:=by rfl):zw X xr (.Call (.Name "sorted" p) [e] [] pos) (Y6 m):=by
 try simp only[k9]at*
 exact PE.imp (JK Ho j hm (by rfl) (jq o jP s) (by decide) (by decide) s (by rfl)) λσ H Q ⟨φ,A,ρ,S,re,h⟩=>by
   refine tM.go S re (z0.mp h) λw A1 c H1 v a L d q=>?_;cases w with
   |ref n=>
    unfold VF at a;dsimp only at a;cases E:A1[n]? with
    |none=>rw[E]at a;exact a.elim|some u=>cases u with
     |lst ws=>
      rw[E]at a;dsimp only at a;obtain⟨P,y,rfl,t,z,f⟩:=d.lst q E;cases i:Qu ws with
      |none=>rw[i]at a;exact a.elim|some ks=>
       rw[i]at a;dsimp only at a;obtain⟨x,ne⟩:=PR i;subst x
       by_cases b:ks.length<64
       ·rw[ah b]at a
        refine⟨P,y,ks,c,rfl,qC.of z,f,ne,b,λl zs g r=>?_⟩;obtain⟨a1,a2,B⟩:=gG d g r;exact a _ _ _ (L.trans a1) a2 B
       ·rw[aj b]at a;exact a.elim
     |_=>rw[E]at a;exact a.elim
   |_=>exact a.elim
section
variable {a b:Expr}{ma mb:Ev}
def FC {k:Nat}(r:jx k X.A)(hm:X.mg "sorted"=none)(a:zw X xr e m)(H:Gl X "sorted":=by rfl)(he:starEach [e] X.env=(false,eval e X.env)::starEach [] X.env:=by rfl)(h:(backTo pos (starEach [] X.env)).any (·.1)=false:=by rfl):
  zw X xr (.Call (.Name "sorted" p) [e] [] pos) (yc ZG m):=by
 try simp only[k9]at*
 exact V5 (IX r.units) ED FT hm (by rfl) a H (by decide) (by decide) he h
def F3 {j:Nat}{I kp:Pos}(r:Gl X "enumerate")(hm:X.mg "enumerate"=none)(B:zw X xr a ma)(s:starEach [a] X.env=(false,eval a X.env)::starEach [] X.env:=by rfl):ki X xr (.Tuple elts kk tpos) (.Call (.Name "enumerate" p) [a] [⟨some "start",.Constant (.int 1) j I,kp⟩] pos) (WY ma):=by
 try simp only[k9]at*
 exact PI.imp (Cr r hm (jq B jP s) s) λσ H Q ⟨φ,A,ρ,S,re,h⟩=>by
   refine tM.go S re (z0.mp h) λw A1 c H1 v b L f q=>?_;cases w with
   |ref n=>
    cases es:zW (.ref n) A1 with
    |none=>rw[es]at b;exact b.elim|some ws=>
     rw[es]at b;obtain⟨p,Y,rfl,Z,M⟩:=YQ f q es;refine⟨p,Y,rfl,Z,b c H1 _ L f λi m T K lw g=>?_⟩;unfold Jc;dsimp only;cases es:zW (.ref n) K with
     |none=>exact⟨λ_ z=>(by cases z),λz=>(by cases z)⟩|some ws=>
      dsimp only;obtain⟨Y,b,d⟩:=Wi q lw g es;unfold atEnd;cases E:ws[i]? with
      |none=>
       dsimp only
       by_cases l:ws.length=i
       ·rw[ah l]
        exact⟨λ_ z=>(by cases z),λ_=>⟨Y,b,by rw[<- d.length];exact l⟩⟩
       ·rw[aj l]
        exact⟨λ_ z=>(by cases z),λz=>(by cases z)⟩
      |some x=>
       dsimp only;refine⟨λu z=>?_,λz=>(by cases z)⟩
       cases z;obtain⟨y,e,D⟩:=d.get E;refine⟨⟨Y,y,b,e⟩,λP H1 ⟨t,N,o,ht,ex,C⟩=>?_⟩;subst ex C
       have:=o Y b
       rw[e]at this;cases this;obtain⟨a1,a2,J⟩:=Ze g ht (.cons (w:=.int ((i+1:Nat):Int)) (v:=.int ((i+1:Nat):Int)) rfl (.one D));exact⟨a1,a2,J⟩
   |_=>exact b.elim
def fX (B:zw X xr a ma)(y:zw X xr b mb):zw X xr (.Dict [some a] [b] pos) (GR ma mb):=by
 try simp only[k9]at*
 exact PE.imp (Bv (DP B y B7) rfl rfl (by simp) (by simp)) λσ H Q ⟨φ,A,ρ,S,re,h⟩ p x=>by
   obtain⟨l,J⟩:=S.alloc (o:=.dct []) x (u:=.dK []) ⟨[],jO,rfl,.nil⟩;refine tM.go J (re.mono l) (qt (z0.mp h) (λ_ _ z=>z) λ_ _ z=>z.mono l) λw A1 j H1 v C g I t=>?_;have L:=l.trans g;refine tM.go I (re.mono L) (qt (z0.mp C) (λ_ _ z=>z) λ_ _ z=>z.mono L) λn A2 c i v2 f d s r=>?_;have e:=L.trans d
   split at f
   ·rename_i k D E
    have ev:=EO (t.mono d) D;have f0:c[A.length]? =some p:=d.ex _ _ (g.ex _ _ (by rw[<- S.len];simp))
    obtain⟨P,f1,us,g1,g2,g3⟩:=s.ob _ _ E;rw[f0]at f1;cases f1;obtain rfl:us=[]:=by simpa using g2
    refine⟨g1,[(k,v2)],by rw[ev];rfl,by simp,?_⟩
    have ln:Le X.K c i c (upd i p (.dK [(k,v2)])):=Le.upd f0 (λxs z=>by rw[g1]at z;cases z) (λ_ _ z=>by rw[g1]at z;cases z)
    obtain⟨q,m⟩:=s.write (o:=.dct []) (o':=.dct [(k,n)]) E rfl rfl f0 (u:=.dK [(k,v2)]) ⟨_,jO,rfl,.one (r.mono ln)⟩;exact f _ _ _ (e.trans q) m ⟨p,rfl,f0⟩
   ·exact f.elim
end
def YK {lo D:Option Expr}{P pu:Po}{I:Pos}(he:zw X xr e m)(M:Jq X xr lo P)(J:Jq X xr D pu):zw X xr (.Subscript e (.Slice lo D none I) pos) (kz m P pu):=by
 try simp only[V1]at*
 exact PE.imp (Ck fV he M J) λσ H Q ⟨φ,A,ρ,S,re,h⟩=>by
   refine tM.go S re (z0.mp h) λw A1 i H1 v T f S1 C=>?_;refine⟨i,A1,ρ,S1,re.mono f,qt (z0.mp T) (λl A2 N g H2 d Z=>?_) λ_ _ z=>z.mono f⟩;refine⟨g,A2,ρ,Z,(re.mono f).mono d,qt (z0.mp N) (λu A3 b c B q s=>?_) λ_ _ z=>z.mono (f.trans d)⟩;have L:=(f.trans d).trans q;cases w with
   |tup ws=>
    obtain⟨a,vs,rfl,t,r⟩:=(C.mono d).mono q;have hlen:ws.length=vs.length:=r.length;refine .inl ⟨a,vs,rfl,t,λhw=>?_,λhw p x=>?_⟩
    ·refine b c B _ L s ⟨a,vs,rfl,t,?_⟩
     have:w8 ws l u=ws:=by
      unfold w8;rw[hlen,hw.1,hw.2,Nat.sub_zero,drop_zero,<- hlen,take_length]
     rw[this];exact r
    ·have j:zu X.K c B (w8 ws l u) (gN vs l u):=by
      unfold w8 gN;rw[hlen];exact zu.take _ (zu.drop _ r)
     obtain⟨a1,a2,y⟩:=Ze s x j;exact b _ _ _ (L.trans a1) a2 y
   |ref n=>
    dsimp only at b;cases E:A3[n]? with
    |none=>rw[E]at b;exact b.elim|some o=>cases o with
     |lst ws=>
      rw[E]at b;dsimp only at b;obtain⟨a,vs,rfl,U,Y,r⟩:=s.lst ((C.mono d).mono q) E;have hlen:ws.length=vs.length:=r.length;refine .inr ⟨a,vs,rfl,qC.of Y,λp x=>?_⟩;have j:zu X.K c B (w8 ws l u) (gN vs l u):=by
       unfold w8 gN;rw[hlen];exact zu.take _ (zu.drop _ r)
      obtain⟨a1,a2,y⟩:=gG s x j;exact b _ _ _ (L.trans a1) a2 y
     |_=>rw[E]at b;exact b.elim
   |_=>exact b.elim
def Di {k:Nat}(r:jx k X.A)(hm:X.mg "sorted"=none)(a:zw X xr e m)(H:Gl X "sorted":=by rfl)(he:starEach [e] X.env=(false,eval e X.env)::starEach [] X.env:=by rfl)(h:(backTo pos (starEach [] X.env)).any (·.1)=false:=by rfl):
  zw X xr (.Call (.Name "sorted" p) [e] [] pos) (yc ZJ m):=by
 try simp only[k9]at*
 exact V5 HG Bd ET hm (by rfl) a H (by decide) (by decide) he h
def zK.up {K:Frag}{j k:Nat}{f:Fn}(F:zK P w K mg base j x n f)(h:j<=k:=by decide):zK P w K mg base k x n f:=F.mono h
section
variable {C:List Value->Prop}
theorem yx (h:∀a,C [a]):∀us:b4,us.length=1->C us
 |[a],_=>h a
theorem kH (h:∀a b,C [a,b]):∀us:b4,us.length=2->C us
 |[a,b],_=>h a b
theorem GC (h:∀a b c,C [a,b,c]):∀us:b4,us.length=3->C us
 |[a,b,c],_=>h a b c
end
def ql {l:b9}(h:decide l.Nodup=true):l.Nodup:=of_decide_eq_true h
noncomputable def Lx (N P:b9)(sc:Scope):Bool:=decide (sc.kind=.function)&&(!sc.isCoroutine&&(!sc.isGenerator&&(decide N.Nodup&&(decide (N.take P.length=P)&&(P.all (λx=>decide (sc.names.lookup x=some .local) || decide (sc.names.lookup x=some .cell))&&sc.names.all λy=>!decide (y.2=.free))))))
def q9 {P:b9}(h:Lx N P sc=true):qL N P sc:=by
 unfold Lx at h;simp only[ak,af,Bool.not_eq_true',aX,bH,decide_eq_false_iff_not]at h;obtain⟨g,f,e,d,c,b,a⟩:=h;exact⟨g,f,e,d,c,b,λy H=>a y H⟩
section
def qB {iter:Expr}{m:Ev}(nl:Nat)(cap:b7)(hw:ki X xr tg iter mi)
  (n:∀s H fp,wq (jR X N sc s H fp yC) tg tw/\gK (jR X N sc s H fp yC) ifs m/\gn (jR X N sc s H fp yC) elt (⟨tg,iter,ifs,0⟩::gs) sc pos 0 em)
  (c:X.calm=true:=by rfl)(S:Za X sc:=by exact cps (by kernel_rfl))(p:Qr X.N N sc nl cap=true:=by kernel_rfl)
  (b:∀g',gs[0]? =some g'->g'.is_async=0:=by intro _ h;cases h<;>rfl)
  (a:∀x,foldedSetIterable iter X.env x=pure x:=by intro _;rfl):Z0 X xr (.ListComp elt (⟨tg,iter,ifs,0⟩::gs) sc pos) (zH nl cap mi tw m em):=DU nl cap c S p hw n b a
def qv {d:Nat}(he:zw X wt elt me)(h:∀e s,X.xe e s->False:=by exactλ_ _ z=>z)(H:gens[d+1]? =none:=by rfl):gn X elt gens sc pos d (zF me):=Bz h he H
end
open PySem L2
abbrev zj:Ev:=qE 0
abbrev zt:Ev:=qE 1
abbrev zI:Ev:=qE 2
abbrev qg:Ev:=qE 3
abbrev qd:Ev:=qE 4
abbrev qT:Ev:=qE 5
abbrev gT:Ev:=qE 6
abbrev Z3:Ev:=qE 7
abbrev gv:Ev:=qE 8
abbrev qp:Ev:=qi (.int 0)
abbrev qh:Ev:=qi (.int 1)
abbrev jk:Ev:=qi (.int 2)
abbrev yH:Ev:=qi (.int 3)
abbrev wk:Ev:=qi (.int 4)
abbrev GP:Ev:=qi (.int 5)
abbrev GO:Ev:=qi (.int 6)
abbrev QH:Ev:=qi (.int 7)
abbrev Zw:Ev:=qi (.int 8)
abbrev Uv:Ev:=qi (.int 10)
abbrev zT:Ev:=qi (.bl true)
abbrev Lh:Ev:=qi (.bl false)
abbrev Kz:Ev:=qi .non
abbrev kh:Ex:=zq (qy Lh) zx
end Mi
namespace G
open PySem L2 Mi
noncomputable def top (i:Nat):Stmt:=PySem.Challenge.pw_nearkinds_k73_whole_kinds_made_one.main.body.getD i (.Pass ⟨0,0,0,0⟩)
structure Bu (mg:cg):Prop where
 Uq:mg "abs"=none
 Qt:mg "all"=none
 za7:mg "bool"=none
 g0:mg "enumerate"=none
 Yd:mg "int"=none
 JB:mg "isinstance"=none
 kA:mg "len"=none
 J3:mg "list"=none
 Ya:mg "max"=none
 Ms:mg "min"=none
 jG:mg "range"=none
 zcr:mg "set"=none
 YL:mg "sorted"=none
 Um:mg "sum"=none
 ko:mg "tuple"=none
 Mz:mg "zip"=none
 LP:∃t,mg "MOST_PARTED_KINDS"=some (.int 6 t)
 IS:∃t,mg "MOST_PLACES"=some (.int 8 t)
abbrev RG:Stmt:=top 1
def H9:qL ["thing"] ["thing"] (qu RG):=q9 (by kernel_rfl)
def RO:Ex:=zq (qy (yg (ZY .int zj) (yv (ZY .bl zj)))) zx
abbrev Rl:Stmt:=top 2
def HC:qL ["thing","many"] ["thing","many"] (qu Rl):=q9 (by kernel_rfl)
def Rb (X:Fn):Ex:=zq (qy (yg (ZY .tup zj) (yg (zi jd (mQ qQ (qo zj)) zt) (mQ gM (zH 1 [] (zN zj) (zD 0) zT (zF (zC X (zh zj zo)))))))) zx
abbrev Tt:Stmt:=top 3
def LS:qL ["thing","many","limit"] ["thing","many","limit"] (qu Tt):=q9 (by kernel_rfl)
def Tq (H:Fn):Ex:=zq (qy (yg (zC H (zh zj (zh zt zo))) (mQ gM (zH 1 [2] (zN zj) (zD 0) zT (zF (y9 gQ Z1 qp zj zt)))))) zx
abbrev Td:Stmt:=top 4
def LK:qL ["thing","least","greatest"] ["thing","least","greatest"] (qu Td):=q9 (by kernel_rfl)
def Te (X:Fn):Ex:=zq (qy (yg (zC X (zh zj zo)) (y9 gQ gQ zt zj zI))) zx
abbrev S6:Stmt:=top 5
def Hk:qL ["things"] ["things"] (qu S6):=q9 (by kernel_rfl)
def Ra:Ex:=zq (qy (mQ gM (zH 2 [] (QA zj (kz zj (wc qh) we)) (qP 0 1) zT (zF (zi ZR zj zt))))) zx
abbrev Tf:Stmt:=top 6
def LN:qL ["thing","least","greatest"] ["thing","least","greatest"] (qu Tf):=q9 (by kernel_rfl)
def Th (X:Fn)(L:Fn):Ex:=zq (qS (yv (ZY .tup zj)) kh zx) (zq (qy (yg (mQ gM (zH 1 [1,2] (zN zj) (zD 0) zT (zF (zC L (zh zj (zh zt (zh zI zo))))))) (zC X (zh zj zo)))) zx)
abbrev RT:Stmt:=top 16
def Rm:qL ["thing","many"] ["thing"] (qu RT):=q9 (by kernel_rfl)
def RP (E:Fn)(l:Fn)(L:Fn):Ex:=zq (qS (jL (yv (ZY .tup zj)) (yv (y9 gQ gQ qh (mQ qQ (qo zj)) Zw))) kh zx) (zq (qe 1 (mQ qQ (qo zj))) (zq (qS (yv (mQ gM (zH 1 [1] (zN zj) (zD 0) zT (zF (zC l (zh zj (zh zt (zh zt zo)))))))) kh zx) (zq (qy (yg (zC E (zh zj zo)) (zC L (zh zj zo)))) zx)))
abbrev RY:Stmt:=top 17
def XU:qL ["rows","a","row","b","kind"] ["rows"] (qu RY):=q9 (by kernel_rfl)
def R4:Ex:=zq (jT (j4 zj) (qP 1 2) (zq (jT (j4 zI) (qP 3 4) (zq (qS (jL (zi qR (zi jd qd qp) (zi jd zt qg)) (zi qR (zi zM (zi zM zj qg) zt) qd)) kh zx) zx)) zx)) (zq (qy zT) zx)
abbrev U8:Stmt:=top 18
def U4:qL ["rows","standing"] ["rows"] (qu U8):=q9 (by kernel_rfl)
def U7:Ex:=zq (qe 1 (qm (zH 2 [] (zN zj) (zD 0) zT (kd (zN zj) (zD 1) zT (zF zt))))) (zq (qy (mQ gM (zH 1 [1] (j9 (mQ yw (qo zt))) (zD 0) zT (zF (zi yn zj zt))))) zx)
abbrev TR:Stmt:=top 19
def Ig:qL ["table"] ["table"] (qu TR):=q9 (by kernel_rfl)
def TU (X:Fn):Ex:=zq (qS (yv (zC X (zh zj zo))) (zq Yi zx) zx) zx
abbrev Sw:Stmt:=top 20
def Iz:qL ["table"] ["table"] (qu Sw):=q9 (by kernel_rfl)
def Sb:Ex:=zq (qy (zi qY (mQ yw (zH 1 [] (zN zj) (zD 0) zT (zF (mQ yw (qo zj))))) qh)) zx
abbrev SU:Stmt:=top 21
def IQ:qL ["table"] ["table"] (qu SU):=q9 (by kernel_rfl)
def SR (g:Fn)(w:Fn):Ex:=zq (yj (zC w (zh zj zo))) (zq (qy (zC g (zh zj zo))) zx)
abbrev Ri:Stmt:=top 22
def Hm:qL ["rows","names"] ["rows","names"] (qu Ri):=q9 (by kernel_rfl)
def Ro:Ex:=zq (qy (mQ jK (zH 1 [1] (zN zj) (zD 0) zT (zF (mQ jK (zH 1 [1] (zN zj) (zD 0) zT (zF (zi Q8 zt zj)))))))) zx
abbrev T3:Stmt:=top 23
def KW:qL ["table","one","other","many","counts","i","j"] ["table","one","other"] (qu T3):=q9 (by kernel_rfl)
def TX (g:Fn):Ex:=zq (qe 3 (zC g (zh zj zo))) (zq (qe 4 (qm (zH 1 [3] (j9 qg) (zD 0) zT (zF (zi ji (qF (zh qp zo)) zt))))) (zq (jT (QA (zi zM zj zt) (zi zM zj zI)) (qP 5 6) (zq (Kh (zi zM qd qT) gT qh) zx)) (zq (qy (mQ jK (zH 1 [] (zN qd) (zD 0) zT (zF (mQ jK (qo zj)))))) zx)))
abbrev Se:Stmt:=top 24
def K0:qL ["table","firsts","a","row","b","kind"] ["table"] (qu Se):=q9 (by kernel_rfl)
def So:Ex:=zq (qe 1 MY) (zq (jT (j4 zj) (qP 2 3) (zq (jT (j4 qg) (qP 4 5) (zq (yj (J8 ZE zt qT (qM (zh zI (zh qd zo))))) zx)) zx)) (zq (qy zt) zx))
abbrev Sg:Stmt:=top 25
def Xm:qL ["table","firsts","pairs"] ["table"] (qu Sg):=q9 (by kernel_rfl)
def Si (g:Fn)(K:Fn)(X:Fn):Ex:=zq (qe 1 (zC X (zh zj zo))) (zq (qe 2 (qm (zH 1 [1] (j9 (zC g (zh zj zo))) (zD 0) zT (zF (zi Q8 zt zj))))) (zq (qy (qm (zH 2 [0] (zN zI) (qP 0 1) zT (zF (zC K (zh zI (zh zj (zh zt zo)))))))) zx))
abbrev T8:Stmt:=top 26
def Yw:qL ["table","kind","a","b","shares","c","row","e","by"] ["table"] (qu T8):=q9 (by kernel_rfl)
def Xh (K:Fn)(X:Fn):Ex:=zq (jT (Y7 (zC X (zh zj zo))) (J5 1 2 3) (zq (qe 4 (zC K (zh zj (zh zI (zh qg zo))))) (zq (jT (j4 zj) (qP 5 6) (zq (jT (j4 gT) (qP 7 8) (zq (qS (yg (zi jd gv zt) (zi qR (zC K (zh zj (zh qT (zh Z3 zo)))) qd)) (zq (qy (qM (zh zI (zh qg (zh qT (zh Z3 zo)))))) zx) zx) zx)) zx)) zx))) (zq (qy Kz) zx)
abbrev Rk:Stmt:=top 27
def Hi:qL ["table"] ["table"] (qu Rk):=q9 (by kernel_rfl)
def Rc (g:Fn)(Y:Fn):Ex:=zq (yj (zC g (zh zj zo))) (zq (qy (zi (wg false) (zC Y (zh zj zo)) Kz)) zx)
abbrev TL:Stmt:=top 28
def L5:qL ["table"] ["table"] (qu TL):=q9 (by kernel_rfl)
def TH (g:Fn)(Y:Fn):Ex:=zq (yj (zC g (zh zj zo))) (zq (qS (zi (wg true) (zC Y (zh zj zo)) Kz) (zq Yi zx) zx) zx)
abbrev Ts:Stmt:=top 31
def GY:qL ["table","thing","last","kinds"] ["table","thing"] (qu Ts):=q9 (by kernel_rfl)
def Tr (g:Fn)(X:Fn)(a:Fn):Ex:=zq (qe 2 (zi gg (zC g (zh zj zo)) qh)) (zq (qS (jL (yv (ZY .lst zt)) (yv (mQ gM (zH 1 [2] (zN zt) (zD 0) zT (zF (zC a (zh zj (zh qh (zh zt zo))))))))) kh zx) (zq (qe 3 (qm (zH 2 [] (zN zt) (zD 0) zT (kd (zN zj) (zD 1) zT (zF zt))))) (zq (qy (yg (zC X (zh zt zo)) (yg (zi j0 (qM zo) zt) (zi jd (yc ZJ qg) (QY qh (zi qY zI qh)))))) zx)))
abbrev SD:Stmt:=top 32
def IZ:qL ["table","thing"] ["table","thing"] (qu SD):=q9 (by kernel_rfl)
def SO (a:Fn)(g:Fn):Ex:=zq (yj (zC g (zh zj zo))) (zq (qy (zC a (zh zj (zh zt zo)))) zx)
abbrev OL:Stmt:=top 33
def WB:qL ["table","parting","names","name","part","kind"] ["table","parting"] (qu OL):=q9 (by kernel_rfl)
def Nn (H:Fn):Ex:=zq (qe 2 (GR qp qp)) (zq (jT (WY zt) (qP 3 4) (zq (jT (zN qd) (zD 5) (zq (wV Zi qg zI qT) zx)) zx)) (zq (qy (zC H (zh zj (zh zI zo)))) zx))
abbrev Rv:Stmt:=top 34
def HY:qL ["table","parting"] ["table","parting"] (qu Rv):=q9 (by kernel_rfl)
def Rq (a:Fn)(v:Fn)(g:Fn):Ex:=zq (yj (zC g (zh zj zo))) (zq (qS (yv (zC a (zh zj (zh zt zo)))) (zq Yi zx) zx) (zq (qy (zC v (zh zj (zh zt zo)))) zx))
abbrev TV:Stmt:=top 35
def QM:qL ["many","partings","kind","longer","parting","at","part"] ["many"] (qu TV):=q9 (by kernel_rfl)
def Im:Ex:=zq (qe 1 (qF (zh (qF zo) zo))) (zq (jT (Qs qh zj) (zD 2) (zq (qe 3 (qm (zH 1 [2] (zN zt) (zD 0) zT (zF (zi qY zj (qF (zh (qM (zh zt zo)) zo))))))) (zq (jT (zN zt) (zD 4) (zq (jT (j4 qd) (qP 5 6) (zq (yj (yK kI qg (zi qY (zi qY (kz qd we (wc qT)) (qF (zh (zi qY gT (qM (zh zI zo))) zo))) (kz qd (wc (zi qY qT qh)) we)))) zx)) zx)) (zq (qe 1 qg) zx)))) (zq (qy zt) zx))
abbrev Tp:Stmt:=top 36
def Tj:qL ["table","many"] ["table"] (qu Tp):=q9 (by kernel_rfl)
def Tv (g:Fn)(I:Fn)(v:Fn)(w:Fn)(Y:Fn):Ex:=zq (yj (zC w (zh zj zo))) (zq (qe 1 (zC g (zh zj zo))) (zq (qS (zi Jp zt GO) (zq Yi zx) zx) (zq (qy (yc ZG (qm (zH 1 [0] (zN (zC I (zh zt zo))) (zD 0) (zi (wg false) (zC Y (zh (zC v (zh zt (zh zj zo))) zo)) Kz) (zF zj))))) zx)))
abbrev T9:Stmt:=top 37
def Iu:qL ["shares","kinds"] ["shares","kinds"] (qu T9):=q9 (by kernel_rfl)
def Sa:Ex:=zq (qy (mQ gM (zH 4 [1] (j4 zj) (qP 0 1) zT (kd (zN qd) (zD 2) zT (kd (zN qd) (zD 3) zT (zF (jL (zi yn zj qd) (zi jd (zi zM (zi zM zt zI) qg) qp)))))))) zx
abbrev Ol:Stmt:=top 38
def YF:qL ["table","shares","lots","kind"] ["table"] (qu Ol):=q9 (by kernel_rfl)
def Oe (x:Fn)(X:Fn)(Y:Fn):Ex:=zq (yj (zC Y (zh zj zo))) (zq (qe 1 (zC X (zh zj zo))) (zq (qe 2 (qF (zh (qM (zh qp zo)) zo))) (zq (jT (Qs qh (mQ qQ (qo zt))) (zD 3) (zq (qe 2 (zi qY zI (qm (zH 1 [3] (zN zI) (zD 0) zT (zF (zi qY zj (qM (zh zt zo)))))))) zx)) (zq (qy (Y6 (qm (zH 1 [1] (zN zI) (zD 0) (zC x (zh zt (zh zj zo))) (zF zj))))) zx))))
abbrev TC:Stmt:=top 39
def Tu:qL ["table","kinds","shares"] ["table","kinds"] (qu TC):=q9 (by kernel_rfl)
def TF (g:Fn)(x:Fn)(X:Fn):Ex:=zq (qe 2 (zC X (zh zj zo))) (zq (qS (jL (yv (zC g (zh zt (zh qp (zh (zi gg (mQ qQ (qo zI)) qh) zo))))) (jL (zi WZ qp zt) (yv (zC x (zh zI (zh zt zo)))))) (zq Yi zx) zx) zx)
abbrev PC:Stmt:=top 40
def Wm:qL ["table","kinds","lots","row","lot"] ["table","kinds"] (qu PC):=q9 (by kernel_rfl)
def P5:Ex:=zq (qe 2 (qF zo)) (zq (jT (zN zj) (zD 3) (zq (qe 4 (mQ jK (zH 2 [1] (j4 qg) (qP 0 1) (zi yn zt zI) (zF zj)))) (zq (qS (zi j0 qd zI) (zq (yj (yK kI zI qd)) zx) zx) zx))) (zq (qy zI) zx))
abbrev Rt:Stmt:=top 41
def Fd:qL ["table","kinds"] ["table","kinds"] (qu Rt):=q9 (by kernel_rfl)
def Ru (C:Fn)(I:Fn)(Y:Fn):Ex:=zq (yj (zC Y (zh zj zo))) (zq (yj (zC I (zh zj (zh zt zo)))) (zq (qy (zC C (zh zj (zh zt zo)))) zx))
abbrev Sv:Stmt:=top 43
def IF:qL ["table"] ["table"] (qu Sv):=q9 (by kernel_rfl)
def Sj (g:Fn):Ex:=zq (qy (qm (zH 1 [0] (j9 (zC g (zh zj zo))) (zD 0) zT (zF (W5 Y5 (zi zM zt qp) zj))))) zx
abbrev OM:Stmt:=top 44
def CP:qL ["table"] ["table"] (qu OM):=q9 (by kernel_rfl)
def O8 (I:Fn)(Y:Fn):Ex:=zq (yj (zC Y (zh zj zo))) (zq (qy (zC I (zh zj zo))) zx)
abbrev T4:Stmt:=top 46
def Iq:qL ["_law_script","_law_k"] ["_law_script","_law_k"] (qu T4):=q9 (by kernel_rfl)
def Xf:Ex:=zq (qS (zi Z1 zt (mQ qQ (qo zj))) (zq (qy (zi zM zj zt)) zx) zx) (zq (qy qp) zx)
abbrev SK:Stmt:=top 47
def Sf:qL ["_law_script","_law_k","_law_cell"] ["_law_script","_law_k"] (qu SK):=q9 (by kernel_rfl)
def Xz (I:Fn):Ex:=zq (qe 2 (zC I (zh zj (zh zt zo)))) (zq (qS (zi UN zI (zi Gu Uv (qi (.int 18)))) (zq (qy (qF (zh (zi gg zI (zi Gu Uv (qi (.int 18)))) (zh zT zo)))) zx) zx) (zq (qy (qF (zh (zi wA zI (qi (.int 2147483647))) (zh Lh zo)))) zx))
abbrev S7:Stmt:=top 48
def K6:qL ["_law_state_here","_law_many","_law_found","_law_stirred"] ["_law_state_here","_law_many"] (qu S7):=q9 (by kernel_rfl)
def XI:Ex:=zq (qS (zi zM zj qh) (zq (qe 2 (zi wA (zi zM zj qp) zt)) (zq (wV wG (zi Zk (zi zM zj qp) zt) zj qp) (zq (qy zI) zx))) zx) (zq (wV wG (zi wA (zi qY (zi ji (zi zM zj qp) (qi (.int 48271))) (qi (.int 29))) (qi (.int 2147483647))) zj qp) (zq (qe 3 (zi wA (zi qY (zi qY (zi ji (zi zM zj qp) (zi zM zj qp)) (zi ji (qi (.int 39373)) (zi zM zj qp))) QH) (qi (.int 2147483629)))) (zq (qe 3 (zi wA (zi qY (zi ji qg qg) (zi ji (qi (.int 16807)) qg)) (qi (.int 2147483587)))) (zq (qy (zi wA (zi Zk qg Zw) zt)) zx))))
abbrev TQ:Stmt:=top 49
def G4:qL ["_law_state_here","_law_things","_law_left","_law_found"] ["_law_state_here","_law_things"] (qu TQ):=q9 (by kernel_rfl)
def TN (K:Fn):Ex:=zq (qe 2 (qm (qo zt))) (zq (qe 3 (qF zo)) (zq (V3 1000 (zi qR zI (qF zo)) (zq (yj (yK kI qg (yK Zd zI (zC K (zh zj (zh (mQ qQ (qo zI)) zo)))))) zx)) (zq (qy qg) zx)))
abbrev SY:Stmt:=top 50
def Sx:qL ["_law_rows","_law_some"] ["_law_rows"] (qu SY):=q9 (by kernel_rfl)
def SH:Ex:=zq (qe 1 (Wy (zi ZO (qm (zH 1 [] (zN zj) (zD 0) zT (zF (qm (qo zj))))) (qF zo)))) (zq (qy (mQ jK (zH 1 [1] (zN zj) (zD 0) zT (zF (mQ jK (zH 1 [1] (zN zj) (zD 0) zT (zF (yK Zg zt zj)))))))) zx)
abbrev SV:Stmt:=top 51
def kR:qL ["_law_state_here","_law_way","_law_many","_law_wide","_law_high","_law_some","_law_ring","_law_rows","_law_a","_law_near","_law_far"] ["_law_state_here"] (qu SV):=q9 (by kernel_rfl)
def Xx (K:Fn):Ex:=zq (qe 1 (zC K (zh zj (zh Zw zo)))) (zq (qe 2 (zi zM (qF (zh Zw (zh QH (zh GO (zh GP (zh wk (zh yH (zh jk (zh qh zo))))))))) (zC K (zh zj (zh Zw zo))))) (zq (qS (zi jd zt qp) (zq (qy (qm (zH 1 [2] (j9 zI) (zD 0) zT (zF (qm (zH 1 [0,1] (j9 zt) (zD 0) zT (zF (zi Ga (yc Kx (zi gg zt zj)) (zi gg zI (yc Kx (zi gg zt zj))))))))))) zx) zx) (zq (qS (zi jd zt qh) (zq (qe 2 (zi zM (qF (zh Zw (zh wk (zh jk zo)))) (zC K (zh zj (zh yH zo))))) (zq (qy (qm (zH 1 [2] (j9 zI) (zD 0) zT (zF (qm (zH 1 [0] (j9 zt) (zD 0) zT (zF (zi zM (qF (zh qp (zh qh (zh qh (zh jk (zh qh (zh jk (zh jk (zh yH zo))))))))) (zi UI zt zj))))))))) zx)) zx) (zq (qS (zi jd zt jk) (zq (qy (qm (zH 1 [2] (j9 zI) (zD 0) zT (zF (qm (zH 1 [0] (j9 zt) (zD 0) zT (zF (yc Jj (zi qR zt zj))))))))) zx) zx) (zq (qS (zi jd zt yH) (zq (Zr (zi zM (qF (zh (qM (zh jk (zh wk zo))) (zh (qM (zh wk (zh jk zo))) (zh (qM (zh jk (zh yH zo))) (zh (qM (zh yH (zh jk zo))) (zh (qM (zh jk (zh jk zo))) zo)))))) (zC K (zh zj (zh GP zo)))) (qP 3 4)) (zq (qe 2 (zi ji qg qd)) (zq (qy (qm (zH 1 [2,3] (j9 zI) (zD 0) zT (zF (qm (zH 1 [0,2] (j9 zt) (zD 0) zT (zF (zi qY (yc Jj (zi qR zt zj)) (yc Jj (zi qR (zi Zk zt zI) (zi Zk zj zI))))))))))) zx))) zx) (zq (qS (zi jd zt wk) (zq (qe 5 (qF (zh (qM (zh qp (zh qh zo))) (zh (qM (zh qp (zh jk zo))) (zh (qM (zh qp (zh yH zo))) (zh (qM (zh qh (zh jk zo))) (zh (qM (zh qh (zh yH zo))) (zh (qM (zh jk (zh yH zo))) zo)))))))) (zq (qy (qm (zH 1 [5] (zN qT) (zD 0) zT (zF (qm (zH 1 [0] (zN zt) (zD 0) zT (zF (zi gg jk (mQ qQ (zH 1 [0] (zN zt) (zD 0) (zi yn zj zt) (zF zj))))))))))) zx)) zx) (zq (qS (zi jd zt GP) (zq (qe 2 (zi zM (qF (zh wk (zh Zw (zh jk zo)))) (zC K (zh zj (zh yH zo))))) (zq (qy (qm (zH 1 [2] (j9 zI) (zD 0) zT (zF (qm (zH 1 [0] (j9 zt) (zD 0) zT (zF (zi UI zt zj)))))))) zx)) zx) (zq (qe 3 (zi zM (qF (zh wk (zh yH (zh jk zo)))) (zC K (zh zj (zh yH zo))))) (zq (qe 6 (qF (zh qp (zh qh (zh (zi zM (qF (zh jk (zh qh zo))) (yc Jj (zi jd qg yH))) (zh qh zo)))))) (zq (qe 7 (qF zo)) (zq (jT (j9 (zi ji jk qg)) (zD 8) (zq (qe 9 (qm (zH 1 [3,6,8] (j9 (zi ji jk qg)) (zD 0) zT (zF (zi zM zI (zi wA (yc Kx (zi gg qg zj)) zt)))))) (zq (qe 10 (qm (zH 1 [3,8] (j9 (zi ji jk qg)) (zD 0) zT (zF (yc Jj (zi qR (zi Zk zI zt) (zi Zk zj zt))))))) (zq (qS (zi jd zt GO) (zq (yj (yK kI Z3 (qm (zH 1 [9,10] (j9 (zi ji jk qg)) (zD 0) zT (zF (zi qY (zi ji yH (zi zM zI zj)) (zi zM zt zj))))))) zx) (zq (yj (yK kI Z3 (qm (zH 1 [9,10] (j9 (zi ji jk qg)) (zD 0) zT (zF (Lb (zi jd (zi zM zI zj) qh) yH (zi zM zt zj))))))) zx)) zx)))) (zq (qy Z3) zx))))))))))))
abbrev SN:Stmt:=top 52
def K1:qL ["_law_state_here","_law_rows","_law_order","_law_kinds"] ["_law_state_here"] (qu SN):=q9 (by kernel_rfl)
def SX (T:Fn)(H:Fn)(h:Fn):Ex:=zq (qe 1 (zC H (zh (zC h (zh zj zo)) zo))) (zq (qe 2 (zC T (zh zj (zh (YX (mQ qQ (qo zt))) zo)))) (zq (qe 3 (zi qY (qF (zh qp zo)) (zC T (zh zj (zh (QY qh (zi qY qh (mQ yw (zH 1 [] (zN zt) (zD 0) zT (zF (mQ yw (qo zj))))))) zo))))) (zq (qy (mQ jK (zH 1 [1,2,3] (zN zI) (zD 0) zT (zF (mQ jK (zH 1 [0,1,3] (zN zI) (zD 0) zT (zF (zi zM qg (zi zM (zi zM zI zt) zj))))))))) zx)))
abbrev U6:Stmt:=top 53
def GV:qL ["_law_table","_law_parting","_law_made","_law_old","_law_new"] ["_law_table","_law_parting"] (qu U6):=q9 (by kernel_rfl)
def U5 (H:Fn)(J:Fn)(x:Fn)(Z:Fn)(X:Fn)(w:Fn):Ex:=zq (qe 2 (zC X (zh zj (zh zt zo)))) (zq (qS (jL (zi (wg true) (zC H (zh zj (zh zt zo))) zT) (jL (zi (wg true) (zC x (zh zI zo)) zT) (zi (wg true) (zC J (zh zI zo)) zT))) kh zx) (zq (Zr (qM (zh (zC w (zh zj zo)) (zh (zC w (zh zI zo)) zo))) (qP 3 4)) (zq (qy (yg (zi jd (zC Z (zh zI zo)) (zi qY qh (mQ qQ (qo zt)))) (zi jd (kz qd (wc qh) we) (qm (zH 1 [3] (zN zt) (zD 0) zT (zF (mQ w9 (zH 1 [1] (zN zj) (zD 0) zT (zF (zi zM zt zj)))))))))) zx)))
abbrev Tc:Stmt:=top 54
def Ys:qL ["_law_table","_law_kinds","_law_lots","_law_many","_law_wide","_law_rest","_law_some"] ["_law_table","_law_kinds"] (qu Tc):=q9 (by kernel_rfl)
def Ta (x:Fn)(Z:Fn)(X:Fn)(w:Fn)(f:Fn):Ex:=zq (Zr (qM (zh (zC f (zh zj (zh zt zo))) (zh (zC w (zh zj zo)) zo))) (qP 2 3)) (zq (qe 4 (mQ w9 (zH 1 [3] (zN zt) (zD 0) zT (zF (zi zM zt zj))))) (zq (qS (jL (zi qR (qm (zH 1 [4] (zN zI) (zD 0) (zi qR (mQ qQ (qo zj)) zt) (zF zj))) (qF zo)) (zi qR (zi ji (mQ qQ (qo zI)) qd) (mQ qQ (qo zj)))) kh zx) (zq (qe 5 (mQ jK (zH 1 [1] (Qs qh (zC Z (zh zj zo))) (zD 0) (zi WZ zj zt) (zF zj)))) (zq (qe 6 (Y6 (qm (zH 1 [] (zN (qF (zh (kz zt (wc qh) we) (zh qT zo)))) (zD 0) (zi qR zj (qM zo)) (zF zj))))) (zq (qy (zi (wg false) (zC x (zh (zC X (zh zj (zh gT zo))) zo)) zT)) zx)))))
abbrev W6:Stmt:=top 55
def Qp:qL ["_law_script","_law_k","_law_state_here","_law_table","_law_wide","_law_found","_law_one","_law_other","_law_some"] ["_law_script"] (qu W6):=q9 (by kernel_rfl)
def Us (a:Fn)(b:Fn)(Q:Fn)(c:Fn)(K:Fn)(w:Fn)(Z:Fn)(U:Fn):Ex:=zq (jT (j9 (zi V6 qh (zi Ga (mQ qQ (qo zj)) jk))) (zD 1) (zq (qe 2 (zC c (zh zj (zh zt zo)))) (zq (qe 3 (zC b (zh zI zo))) (zq (qe 4 (zC Z (zh qg zo))) (zq (qe 5 (zC w (zh qg zo))) (zq (qS (jL (zi qR (qm (zH 1 [3] (zN qT) (zD 0) (yv (zC a (zh zt (zh zj zo)))) (zF zj))) (qF zo)) (zi qR (zi zM qT qp) (qM (zh qp zo)))) kh zx) (zq (Zr (qM (zh (zi zM qT (zC K (zh zI (zh (mQ qQ (qo qT)) zo)))) (zh (zi zM qT (zC K (zh zI (zh (mQ qQ (qo qT)) zo)))) zo))) (qP 6 7)) (zq (qS (jL (zi j0 (mQ jK (zH 1 [7] (zN gT) (zD 0) (zi yn zj zt) (zF zj))) qT) (zi j0 (JX qd) qT)) kh zx) (zq (qS (zi Z1 qd QH) (zq (qe 8 (zC U (zh qg zo))) (zq (qS (jL (zi j0 (qm (zH 1 [] (Qs qh qd) (zD 0) zT (zF (qM (zh zj zo))))) gv) (yg (zi Jp qd qh) (zi j0 (qF (zh (J2 qh qd) zo)) gv))) kh zx) (zq (qS (zi qR (qm (zH 1 [3] (zN gv) (zD 0) (yv (zC Q (zh zt (zh zj zo)))) (zF zj))) (qF zo)) kh zx) zx))) zx) zx))))))))) (zq (qy zT) zx)
def o_law {K:Frag}{k:Nat}(T:Bu mg){f:Addr}(F:Zt K "law" "law" W6 f fd){a:Fn}(QL:zK P w K mg base k "_law_closed_right" 2 a){b:Fn}(QP:zK P w K mg base k "_law_known" 1 b){Q:Fn}(Z6:zK P w K mg base k "_law_parting_right" 2 Q){c:Fn}(JC:zK P w K mg base k "_law_state" 2 c){S:Fn}(yI:zK P w K mg base k "_law_take" 2 S){C:Fn}(JP:zK P w K mg base k "closed" 1 C){Z:Fn}(gZ:zK P w K mg base k "kinds_many" 1 Z){U:Fn}(Jt:zK P w K mg base k "steady_partings" 1 U):yR P w K mg base gp (k+1) f fd ["_law_script"] (ZX K 1 (qK 9 (Us a b Q c S C Z U))):=
 fx F Qp λv A outer s H E h=>zr (yZ PassesOwn.never rfl (yz rfl T.jG (D1 rfl T.Ya zA (Om rfl T.Ms (kx T.kA (yq (zc 0))) zA))) (qj 1 Qp.nd) (zr (qO 2 Qp.nd (zZ JC h (zp (zc 0) (zp (zc 1) zB)))) (zr (qO 3 Qp.nd (zZ QP h (zp (zc 2) zB))) (zr (qO 4 Qp.nd (zZ gZ h (zp (zc 3) zB))) (zr (qO 5 Qp.nd (zZ JP h (zp (zc 3) zB))) (zr (jH (gD (gH (jD (kL h) (jF (qB (N:=["_law_kinds","_law_table"]) 1 [3] (jb (zc 5)) (λ_ _ _=>⟨qj 0 (ql (by kernel_rfl)),g8 (wR (wu (zZ QL h (zp (zc 1) (zp (zc 0) zB))))),qv (zc 0)⟩))) (jM zB qz)) (ZH (jD (kL h) (jl (zc 5) zA) (j8 (zp zA zB) (zR qz)))))) (zr (qk yJ) zE) zE) (zr (WL (j8 (zp (jl (zc 5) (zZ yI h (zp (zc 2) (zp (kx T.kA (yq (zc 5))) zB)))) (zp (jl (zc 5) (zZ yI h (zp (zc 2) (zp (kx T.kA (yq (zc 5))) zB)))) zB)) (zR (zR qz))) (yX 6 7 rfl Qp.nd)) (zr (jH (gD (gH (Zh (JO h) (gB T.ko (yf (qB (N:=["_law_kind","_law_other"]) 1 [7] (jb (zc 6)) (λ_ _ _=>⟨qj 0 (ql (by kernel_rfl)),g8 (Zh Ko (zc 0) (zc 1)),qv (zc 0)⟩)))) (zc 5)) (ZH (Zh (JO h) (F5 rfl T.ko T.jG (zc 4)) (zc 5))))) (zr (qk yJ) zE) zE) (zr (jH (jD UC (zc 4) zA) (zr (qO 8 Qp.nd (zZ Jt h (zp (zc 3) zB))) (zr (jH (gD (gH (Zh (JO h) (jF (qB (N:=["_law_kind"]) 1 [] (Wx rfl T.jG zA (zc 4)) (λ_ _ _=>⟨qj 0 (ql (by kernel_rfl)),qD,qv (j8 (zp (zc 0) zB) (zR qz))⟩))) (zc 8)) (ZH (gD (OV (jD M4 (zc 4) zA) (PD (Zh (JO h) (jM (zp (Ef rfl T.ko T.jG zA (zc 4)) zB) (zR qz)) (zc 8)))))))) (zr (qk yJ) zE) zE) (zr (jH (jD (kL h) (jF (qB (N:=["_law_parting","_law_table"]) 1 [3] (jb (zc 8)) (λ_ _ _=>⟨qj 0 (ql (by kernel_rfl)),g8 (wR (wu (zZ Z6 h (zp (zc 1) (zp (zc 0) zB))))),qv (zc 0)⟩))) (jM zB qz)) (zr (qk yJ) zE) zE) zE))) zE) zE))))))))) (zr (qk yJ) zE)
def Wh:Fn:=qK 1 RO
def Qb:Fn :=  Wh
def XD:Fn:=qK 1 Ra
def QQ:Fn :=  XD
def Pd:Fn:=qK 5 R4
def X2:Fn:=iso Pd
def U9:Fn:=qK 2 U7
def GX:Fn:=iso U9
def Sk:Fn:=qK 1 Sb
def gY:Fn:=iso Sk
def XC:Fn:=qK 2 Ro
def Wc:Fn :=  XC
def Xs:Fn:=qK 6 So
def Jz:Fn:=iso Xs
def Xc:Fn:=qK 7 Im
def QN:Fn:=wH Xc
def Xg:Fn:=qK 2 Sa
def Jy:Fn :=  Xg
def Od:Fn:=qK 5 P5
def Vh:Fn:=iso Od
def T7:Fn:=qK 2 Xf
def KY:Fn :=  T7
def Yy:Fn:=qK 4 XI
def yI:Fn:=Zp Yy
def Xy:Fn:=qK 2 SH
def K7:Fn :=  Xy
def XG:Fn:=qK 2 (Rb Qb)
def Wf:Fn :=  XG
def GZ:Fn:=qK 3 (Te Qb)
def KS:Fn :=  GZ
def T5:Fn:=qK 7 (TX gY)
def gx:Fn:=iso T5
def Vu:Fn:=qK 6 (Nn Wc)
def JT:Fn :=  Vu
def Sn:Fn:=qK 1 (Sj gY)
def Xo:Fn:=iso Sn
def Sy:Fn:=qK 3 (Xz KY)
def JC:Fn :=  Sy
def G9:Fn:=qK 4 (TN yI)
def Jw:Fn :=  G9
def Xv:Fn:=qK 11 (Xx yI)
def K8:Fn :=  Xv
def G6:Fn:=qK 3 (Tq Wf)
def Yt:Fn :=  G6
def G2:Fn:=qK 3 (Th QQ KS)
def Js:Fn :=  G2
def Sl:Fn:=qK 3 (Si gY gx Jz)
def K2:Fn:=iso Sl
def T6:Fn:=qK 9 (Xh gx Jz)
def Z7:Fn:=iso T6
def K3:Fn:=qK 4 (SX Jw K7 K8)
def QP:Fn:=Zp K3
def XO:Fn:=qK 2 (RP X2 Yt GX)
def JF:Fn :=  XO
def G7:Fn:=qK 4 (Tr gY QQ Js)
def Yu:Fn :=  G7
def TB:Fn:=qK 3 (TF Js Jy K2)
def Xb:Fn:=iso TB
def Xd:Fn:=qK 1 (TU JF)
def Zx:Fn :=  Xd
def Sz:Fn:=qK 1 (SR gY Zx)
def gZ:Fn:=iso Sz
def Rh:Fn:=qK 1 (Rc Zx Z7)
def Wd:Fn:=iso Rh
def Xa:Fn:=qK 1 (TH Zx Z7)
def Ju:Fn :=  Xa
def Xw:Fn:=qK 2 (SO Yu Zx)
def K4:Fn :=  Xw
def XM:Fn:=qK 2 (Rq Yu JT Zx)
def Yz:Fn :=  XM
def G5:Fn:=qK 2 (Tv gY QN JT Zx Z7)
def Jt:Fn:=wH G5
def X9:Fn:=qK 4 (Oe Jy K2 Ju)
def JP:Fn:=iso X9
def RN:Fn:=qK 2 (Ru Vh Xb Ju)
def Wk:Fn:=iso RN
def Nl:Fn:=qK 1 (O8 Xo Ju)
def Q0:Fn:=iso Nl
def GW:Fn:=qK 5 (U5 K4 Wd JF gZ Yz Q0)
def Z6:Fn :=  GW
def Tb:Fn:=qK 7 (Ta Wd gZ Yz Q0 Wk)
def QL:Fn:=iso Tb
structure Tx (K:Frag):Prop where
 Ft:FD K "is_whole" RG
 Fo:FD K "is_rising" S6
 EW:FD K "is_even" RY
 LI:FD K "leaves_no_kind_out" U8
 IY:FD K "count_kinds" Sw
 Fh:FD K "put_names" Ri
 Hc:FD K "first_pairs" Se
 Ik:FD K "list_partings" TV
 IJ:FD K "keeps_within" T9
 CU:FD K "gather" PC
 IL:FD K "_law_cell_at" T4
 Fp:FD K "_law_take" S7
 Hy:FD K "_law_named" SY
 HQ:FD K "is_wholes" Rl
 LX:FD K "is_whole_between" Td
 Iy:FD K "count_shares" T3
 Bg:FD K "merge" OL
 IM:FD K "count_sizes" Sv
 Hw:FD K "_law_state" SK
 Ih:FD K "_law_mixed_row" TQ
 Hj:FD K "_law_plain" SV
 L1:FD K "is_wholes_below" Tt
 LU:FD K "is_rising_wholes" Tf
 Hd:FD K "kind_shares" Sg
 ID:FD K "search_break" T8
 HJ:FD K "_law_known" SN
 FK:FD K "is_table" RT
 L8:FD K "is_parting_list" Ts
 Ic:FD K "require_closed" TC
 Il:FD K "require_table" TR
 Hu:FD K "kinds_many" SU
 HX:FD K "is_steady" Rk
 Ii:FD K "require_steady" TL
 HF:FD K "is_parting" SD
 FR:FD K "made_one" Rv
 L3:FD K "steady_partings" Tp
 Bc:FD K "closed" Ol
 F1:FD K "together" Rt
 As:FD K "sizes" OM
 LF:FD K "_law_parting_right" U6
 LO:FD K "_law_closed_right" Tc
 zcE:FD K "law" W6
 zbW:nsIn K mainGlobals "abs"=some none
 zcK:nsIn K mainGlobals "all"=some none
 zbs:nsIn K mainGlobals "bool"=some none
 Fg:nsIn K mainGlobals "enumerate"=some none
 zcS:nsIn K mainGlobals "int"=some none
 Hn:nsIn K mainGlobals "isinstance"=some none
 zb1:nsIn K mainGlobals "len"=some none
 zbl:nsIn K mainGlobals "list"=some none
 zcX:nsIn K mainGlobals "max"=some none
 zbZ:nsIn K mainGlobals "min"=some none
 AI:nsIn K mainGlobals "range"=some none
 zcQ:nsIn K mainGlobals "set"=some none
 Cq:nsIn K mainGlobals "sorted"=some none
 zcJ:nsIn K mainGlobals "sum"=some none
 Ab:nsIn K mainGlobals "tuple"=some none
 zcf:nsIn K mainGlobals "zip"=some none
 LM:CD K "MOST_PARTED_KINDS" 6
 IP:CD K "MOST_PLACES" 8
section
variable {K:Frag}
def bu (X:K.In h)(G:h.Ns mainGlobals mg)(T:Tx K):Bu mg:=⟨a8 X G T.zbW,a8 X G T.zcK,a8 X G T.zbs,a8 X G T.Fg,a8 X G T.zcS,a8 X G T.Hn,a8 X G T.zb1,a8 X G T.zbl,a8 X G T.zcX,a8 X G T.zbZ,a8 X G T.AI,a8 X G T.zcQ,a8 X G T.Cq,a8 X G T.zcJ,a8 X G T.Ab,a8 X G T.zcf,(let ⟨t,e⟩:=T.LM;⟨t,a7 X G e⟩),(let ⟨t,e⟩:=T.IP;⟨t,a7 X G e⟩)⟩
structure Zz (K:Frag)(h:Heap)(mg:cg):Prop where
 X:K.In h
 G:h.Ns mainGlobals mg
 T:Tx K
 B:Bu mg
def zz (X:K.In h)(G:h.Ns mainGlobals mg)(T:Tx K):Zz K h mg:=⟨X,G,T,bu X G T⟩
def Rw (Z:Zz K h mg):zK P w K mg base 1 "is_whole" 1 Qb:=by
 obtain⟨f,fd,F,a⟩:=Z.T.Ft;exact(ja F (a7 Z.X Z.G a) H9 (λ_ _ _ _ _ _=>yx λ_=>rfl) λc A outer s H E r=>zr (qk (Zb (JZ .int Z.B.JB Z.B.Yd (by rfl) (zc 0)) (ZF (BM (JZ .bl Z.B.JB Z.B.za7 (by rfl) (zc 0)))))) (zE):zK P w K mg base 1 "is_whole" 1 Wh)
def S8 (Z:Zz K h mg):zK P w K mg base 1 "is_rising" 1 QQ:=by
 obtain⟨f,fd,F,a⟩:=Z.T.Fo;exact(ja F (a7 Z.X Z.G a) Hk (λ_ _ _ _ _ _=>yx λ_=>rfl) λc A outer s H E r=>zr (qk (Qf rfl Z.B.Qt (yf (qB (N:=["one","other"]) 2 [] (O9 rfl Z.B.Mz (zc 0) (YK (zc 0) (YW zA) Y3)) (λ_ _ _=>⟨yX 0 1 rfl (ql (by kernel_rfl)),qD,qv (kK (fU r) (zc 0) (zc 1))⟩))))) (zE):zK P w K mg base 1 "is_rising" 1 XD)
def F7 (Z:Zz K h mg):zK P w K mg base 1 "is_even" 1 X2:=by
 obtain⟨f,fd,F,a⟩:=Z.T.EW;exact(ja F (a7 Z.X Z.G a) XU (λ_ _ _ _ _ _=>yx λ_=>rfl) λc A outer s H E r=>zr (yZ PassesOwn.never rfl (ZA rfl Z.B.g0 (zc 0)) (yX 1 2 rfl XU.nd) (zr (yZ PassesOwn.never rfl (ZA rfl Z.B.g0 (zc 2)) (yX 3 4 rfl XU.nd) (zr (jH (gD (gH (jD (kL r) (kK (ka r) (zc 4) zA) (kK (ka r) (zc 1) (zc 3))) (ZH (jD (kL r) (jl (jl (zc 0) (zc 3)) (zc 1)) (zc 4))))) (zr (qk yJ) zE) zE) zE)) zE)) (zr (qk yJ) zE):zK P w K mg base 1 "is_even" 1 Pd).iso
def LD (Z:Zz K h mg):zK P w K mg base 1 "leaves_no_kind_out" 1 GX:=by
 obtain⟨f,fd,F,a⟩:=Z.T.LI;exact(ja F (a7 Z.X Z.G a) U4 (λ_ _ _ _ _ _=>yx λ_=>rfl) λc A outer s H E r=>zr (qO 1 U4.nd (jF (qB (N:=["row","kind"]) 2 [] (jb (zc 0)) (λ_ _ _=>⟨qj 0 (ql (by kernel_rfl)),qD,WG (λ_ _ z=>z) rfl rfl (by intro _ h;cases h<;>rfl) (jb (zc 0)) (qj 1 (ql (by kernel_rfl))) qD (qv (zc 1))⟩)))) (zr (qk (Qf rfl Z.B.Qt (yf (qB (N:=["kind","standing"]) 1 [1] (yz rfl Z.B.jG (YR rfl Z.B.Ya (yq (zc 1)))) (λ_ _ _=>⟨qj 0 (ql (by kernel_rfl)),qD,qv (V2 Ko (zc 0) (zc 1))⟩))))) zE):zK P w K mg base 1 "leaves_no_kind_out" 1 U9).iso
def JA (Z:Zz K h mg):zK P w K mg base 1 "count_kinds" 1 gY:=by
 obtain⟨f,fd,F,a⟩:=Z.T.IY;exact(ja F (a7 Z.X Z.G a) Iz (λ_ _ _ _ _ _=>yx λ_=>rfl) λc A outer s H E r=>zr (qk (yO (YR rfl Z.B.Ya (yf (qB (N:=["row"]) 1 [] (jb (zc 0)) (λ_ _ _=>⟨qj 0 (ql (by kernel_rfl)),qD,qv (YR rfl Z.B.Ya (yq (zc 0)))⟩)))) zA)) (zE):zK P w K mg base 1 "count_kinds" 1 Sk).iso
def HW (Z:Zz K h mg):zK P w K mg base 1 "put_names" 2 Wc:=by
 obtain⟨f,fd,F,a⟩:=Z.T.Fh;exact(ja F (a7 Z.X Z.G a) Hm (λ_ _ _ _ _ _=>kH λ_ _=>rfl) λc A outer s H E r=>zr (qk (gB Z.B.ko (yf (qB (N:=["row","names"]) 1 [1] (jb (zc 0)) (λ_ _ _=>⟨qj 0 (ql (by kernel_rfl)),qD,qv (gB Z.B.ko (yf (qB (N:=["kind","names"]) 1 [1] (jb (zc 0)) (λ_ _ _=>⟨qj 0 (ql (by kernel_rfl)),qD,qv (Pn r (zc 1) (zc 0))⟩))))⟩))))) (zE):zK P w K mg base 1 "put_names" 2 XC)
def Sr (Z:Zz K h mg):zK P w K mg base 1 "first_pairs" 1 Jz:=by
 obtain⟨f,fd,F,a⟩:=Z.T.Hc;exact(ja F (a7 Z.X Z.G a) K0 (λ_ _ _ _ _ _=>yx λ_=>rfl) λc A outer s H E r=>zr (qO 1 K0.nd Au) (zr (yZ PassesOwn.never rfl (ZA rfl Z.B.g0 (zc 0)) (yX 2 3 rfl K0.nd) (zr (yZ PassesOwn.never rfl (ZA rfl Z.B.g0 (zc 3)) (yX 4 5 rfl K0.nd) (zr (km (Fw (zc 1) (zc 5) (j8 (zp (zc 2) (zp (zc 4) zB)) (zR (zR qz))))) zE)) zE)) (zr (qk (zc 1)) zE)):zK P w K mg base 1 "first_pairs" 1 Xs).iso
def Ij (Z:Zz K h mg):zK P w K mg base 1 "list_partings" 1 QN:=by
 obtain⟨f,fd,F,a⟩:=Z.T.Ik;exact(ja F (a7 Z.X Z.G a) QM (λ_ _ _ _ _ _=>yx λ_=>rfl) λc A outer s H E r=>zr (qO 1 QM.nd (jM (zp (jM zB qz) zB) (zR qz))) (zr (yZ PassesOwn.never rfl (Wx rfl Z.B.jG zA (zc 0)) (qj 2 QM.nd) (zr (We 3 (N:=["parting","kind"]) 1 [2] QM.nd rfl (cps (by kernel_rfl)) (by kernel_rfl) (jb (zc 1)) (λ_ _ _=>⟨qj 0 (ql (by kernel_rfl)),qD,qv (yO (zc 0) (jM (zp (j8 (zp (zc 1) zB) (zR qz)) zB) (zR qz)))⟩)) (zr (yZ PassesOwn.never rfl (jb (zc 1)) (qj 4 QM.nd) (zr (yZ PassesOwn.never rfl (ZA rfl Z.B.g0 (zc 4)) (yX 5 6 rfl QM.nd) (zr (km (YB (zc 3) (yO (yO (YK (zc 4) Y3 (YW (zc 5))) (jM (zp (yO (zc 6) (j8 (zp (zc 2) zB) (zR qz))) zB) (zR qz))) (YK (zc 4) (YW (yO (zc 5) zA)) Y3)))) zE)) zE)) (zr (qO 1 QM.nd (zc 3)) zE)))) (zr (qk (zc 1)) zE)):zK P w K mg base 1 "list_partings" 1 Xc).wH
def TZ (Z:Zz K h mg):zK P w K mg base 1 "keeps_within" 2 Jy:=by
 obtain⟨f,fd,F,a⟩:=Z.T.IJ;exact(ja F (a7 Z.X Z.G a) Iu (λ_ _ _ _ _ _=>kH λ_ _=>rfl) λc A outer s H E r=>zr (qk (Qf rfl Z.B.Qt (yf (qB (N:=["k","by_kind","i","j","kinds"]) 4 [1] (ZA rfl Z.B.g0 (zc 0)) (λ_ _ _=>⟨yX 0 1 rfl (ql (by kernel_rfl)),qD,WG (λ_ _ z=>z) rfl rfl (by intro _ h;cases h<;>rfl) (jb (zc 4)) (qj 2 (ql (by kernel_rfl))) qD (WG (λ_ _ z=>z) rfl rfl (by intro _ h;cases h<;>rfl) (jb (zc 4)) (qj 3 (ql (by kernel_rfl))) qD (qv (fy (V2 Ko (zc 0) (zc 4)) (ZF (kK (ka r) (jl (jl (zc 1) (zc 2)) (zc 3)) zA)))))⟩))))) (zE):zK P w K mg base 1 "keeps_within" 2 Xg)
def CV (Z:Zz K h mg):zK P w K mg base 1 "gather" 2 Vh:=by
 obtain⟨f,fd,F,a⟩:=Z.T.CU;exact(ja F (a7 Z.X Z.G a) Wm (λ_ _ _ _ _ _=>kH λ_ _=>rfl) λc A outer s H E r=>zr (qO 2 Wm.nd (jM zB qz)) (zr (yZ PassesOwn.never rfl (jb (zc 0)) (qj 3 Wm.nd) (zr (qO 4 Wm.nd (gB Z.B.ko (yf (qB (N:=["place","kind","kinds"]) 2 [1] (ZA rfl Z.B.g0 (zc 3)) (λ_ _ _=>⟨yX 0 1 rfl (ql (by kernel_rfl)),g8 (Zh Ko (zc 1) (zc 2)),qv (zc 0)⟩))))) (zr (jH (Zh (JO r) (zc 4) (zc 2)) (zr (km (YB (zc 2) (zc 4))) zE) zE) zE))) (zr (qk (zc 2)) zE)):zK P w K mg base 1 "gather" 2 Od).iso
def IH (Z:Zz K h mg):zK P w K mg base 1 "_law_cell_at" 2 KY:=by
 obtain⟨f,fd,F,a⟩:=Z.T.IL;exact(ja F (a7 Z.X Z.G a) Iq (λ_ _ _ _ _ _=>kH λ_ _=>rfl) λc A outer s H E r=>zr (jH (jD UC (zc 1) (kx Z.B.kA (yq (zc 0)))) (zr (qk (jl (zc 0) (zc 1))) zE) zE) (zr (qk zA) zE):zK P w K mg base 1 "_law_cell_at" 2 T7)
def Z9 (Z:Zz K h mg):zK P w K mg base 1 "_law_take" 2 yI:=by
 obtain⟨f,fd,F,a⟩:=Z.T.Fp;exact(ja F (a7 Z.X Z.G a) K6 (λ_ _ _ _ _ _=>kH λ_ _=>rfl) λc A outer s H E r=>zr (jH (wu (jl (zc 0) zA)) (zr (qO 2 K6.nd (Q2 (jl (zc 0) zA) (zc 1))) (zr (OT (JJ (jl (zc 0) zA) (zc 1)) (zc 0) zA) (zr (qk (zc 2)) zE))) zE) (zr (OT (Q2 (yO (kY (jl (zc 0) zA) zA) zA) zA) (zc 0) zA) (zr (qO 3 K6.nd (Q2 (yO (yO (kY (jl (zc 0) zA) (jl (zc 0) zA)) (kY zA (jl (zc 0) zA))) zA) zA)) (zr (qO 3 K6.nd (Q2 (yO (kY (zc 3) (zc 3)) (kY zA (zc 3))) zA)) (zr (qk (Q2 (JJ (zc 3) zA) (zc 1))) zE)))):zK P w K mg base 1 "_law_take" 2 Yy).Zp
def HA (Z:Zz K h mg):zK P w K mg base 1 "_law_named" 1 K7:=by
 obtain⟨f,fd,F,a⟩:=Z.T.Hy;exact(ja F (a7 Z.X Z.G a) Sx (λ_ _ _ _ _ _=>yx λ_=>rfl) λc A outer s H E r=>zr (qO 1 Sx.nd (HZ rfl Z.B.YL Z.B.zcr (Cv rfl Z.B.Um (jF (qB (N:=["_law_row"]) 1 [] (jb (zc 0)) (λ_ _ _=>⟨qj 0 (ql (by kernel_rfl)),qD,qv (P2 Z.B.J3 (yq (zc 0)))⟩))) (jM zB qz)))) (zr (qk (gB Z.B.ko (yf (qB (N:=["_law_row","_law_some"]) 1 [1] (jb (zc 0)) (λ_ _ _=>⟨qj 0 (ql (by kernel_rfl)),qD,qv (gB Z.B.ko (yf (qB (N:=["_law_kind","_law_some"]) 1 [1] (jb (zc 0)) (λ_ _ _=>⟨qj 0 (ql (by kernel_rfl)),qD,qv (F6 r (zc 1) (zc 0))⟩))))⟩))))) zE):zK P w K mg base 1 "_law_named" 1 Xy)
def Fm (Z:Zz K h mg):zK P w K mg base 2 "is_wholes" 2 Wf:=by
 obtain⟨f,fd,F,a⟩:=Z.T.HQ;exact(ja F (a7 Z.X Z.G a) HC (λ_ _ _ _ _ _=>kH λ_ _=>rfl) λc A outer s H E r=>zr (qk (Zb (JZ .tup Z.B.JB Z.B.ko (by rfl) (zc 0)) (Zb (kK (ka r) (kx Z.B.kA (yq (zc 0))) (zc 1)) (ZF (Qf rfl Z.B.Qt (yf (qB (N:=["part"]) 1 [] (jb (zc 0)) (λ_ _ _=>⟨qj 0 (ql (by kernel_rfl)),qD,qv (zZ (Rw Z).up r (zp (zc 0) zB))⟩)))))))) (zE):zK P w K mg base 2 "is_wholes" 2 XG)
def LY (Z:Zz K h mg):zK P w K mg base 2 "is_whole_between" 3 KS:=by
 obtain⟨f,fd,F,a⟩:=Z.T.LX;exact(ja F (a7 Z.X Z.G a) LK (λ_ _ _ _ _ _=>GC λ_ _ _=>rfl) λc A outer s H E r=>zr (qk (Zb (zZ (Rw Z).up r (zp (zc 0) zB)) (ZF (N0 Kr Kr (zc 1) (zc 0) (zc 2))))) (zE):zK P w K mg base 2 "is_whole_between" 3 GZ)
def Xk (Z:Zz K h mg):zK P w K mg base 2 "count_shares" 3 gx:=by
 obtain⟨f,fd,F,a⟩:=Z.T.Iy;exact(ja F (a7 Z.X Z.G a) KW (λ_ _ _ _ _ _=>GC λ_ _ _=>rfl) λc A outer s H E r=>zr (qO 3 KW.nd (zZ (JA Z).up r (zp (zc 0) zB))) (zr (We 4 (N:=["kind","many"]) 1 [3] KW.nd rfl (cps (by kernel_rfl)) (by kernel_rfl) (yz rfl Z.B.jG (zc 3)) (λ_ _ _=>⟨qj 0 (ql (by kernel_rfl)),qD,qv (kY (jM (zp zA zB) (zR qz)) (zc 1))⟩)) (zr (yZ PassesOwn.never rfl (O9 rfl Z.B.Mz (jl (zc 0) (zc 1)) (jl (zc 0) (zc 2))) (yX 5 6 rfl KW.nd) (zr (DD (jl (zc 4) (zc 5)) (zc 6) zA) zE)) (zr (qk (gB Z.B.ko (yf (qB (N:=["row"]) 1 [] (jb (zc 4)) (λ_ _ _=>⟨qj 0 (ql (by kernel_rfl)),qD,qv (gB Z.B.ko (yq (zc 0)))⟩))))) zE))):zK P w K mg base 2 "count_shares" 3 T5).iso
def OF (Z:Zz K h mg):zK P w K mg base 2 "merge" 2 JT:=by
 obtain⟨f,fd,F,a⟩:=Z.T.Bg;exact(ja F (a7 Z.X Z.G a) WB (λ_ _ _ _ _ _=>kH λ_ _=>rfl) λc A outer s H E r=>zr (qO 2 WB.nd (fX zA zA)) (zr (yZ PassesOwn.never rfl (F3 rfl Z.B.g0 (zc 1)) (yX 3 4 rfl WB.nd) (zr (yZ PassesOwn.never rfl (jb (zc 4)) (qj 5 WB.nd) (zr (Cp r (zc 3) (zc 2) (zc 5)) zE)) zE)) (zr (qk (zZ (HW Z).up r (zp (zc 0) (zp (zc 2) zB)))) zE)):zK P w K mg base 2 "merge" 2 Vu)
def Hf (Z:Zz K h mg):zK P w K mg base 2 "count_sizes" 1 Xo:=by
 obtain⟨f,fd,F,a⟩:=Z.T.IM;exact(ja F (a7 Z.X Z.G a) IF (λ_ _ _ _ _ _=>yx λ_=>rfl) λc A outer s H E r=>zr (qk (jF (qB (N:=["kind","table"]) 1 [0] (yz rfl Z.B.jG (zZ (JA Z).up r (zp (zc 0) zB))) (λ_ _ _=>⟨qj 0 (ql (by kernel_rfl)),qD,qv (Dd (jl (zc 1) zA) (zc 0))⟩)))) (zE):zK P w K mg base 2 "count_sizes" 1 Sn).iso
def HH (Z:Zz K h mg):zK P w K mg base 2 "_law_state" 2 JC:=by
 obtain⟨f,fd,F,a⟩:=Z.T.Hw;exact(ja F (a7 Z.X Z.G a) Sf (λ_ _ _ _ _ _=>kH λ_ _=>rfl) λc A outer s H E r=>zr (qO 2 Sf.nd (zZ (IH Z).up r (zp (zc 0) (zp (zc 1) zB)))) (zr (jH (jD eJ (zc 2) (OP zA zA)) (zr (qk (jM (zp (Qh (zc 2) (OP zA zA)) (zp yJ zB)) (zR (zR qz)))) zE) zE) (zr (qk (jM (zp (Q2 (zc 2) zA) (zp yJ zB)) (zR (zR qz)))) zE)):zK P w K mg base 2 "_law_state" 2 Sy)
def TM (Z:Zz K h mg):zK P w K mg base 2 "_law_mixed_row" 2 Jw:=by
 obtain⟨f,fd,F,a⟩:=Z.T.Ih;exact(ja F (a7 Z.X Z.G a) G4 (λ_ _ _ _ _ _=>kH λ_ _=>rfl) λc A outer s H E r=>zr (qO 2 G4.nd (P2 Z.B.J3 (yq (zc 1)))) (zr (qO 3 G4.nd (jM zB qz)) (zr (EH 1000 PassesOwn.never (jD (kL r) (zc 2) (jM zB qz)) (zr (km (YB (zc 3) (EL (zc 2) (zZ (Z9 Z).up r (zp (zc 0) (zp (kx Z.B.kA (yq (zc 2))) zB)))))) zE)) (zr (qk (zc 3)) zE))):zK P w K mg base 2 "_law_mixed_row" 2 G9)
def HD (Z:Zz K h mg):zK P w K mg base 2 "_law_plain" 1 K8:=by
 obtain⟨f,fd,F,a⟩:=Z.T.Hj;exact(ja F (a7 Z.X Z.G a) kR (λ_ _ _ _ _ _=>yx λ_=>rfl) λc A outer s H E r=>zr (qO 1 kR.nd (zZ (Z9 Z).up r (zp (zc 0) (zp zA zB)))) (zr (qO 2 kR.nd (jl (jM (zp zA (zp zA (zp zA (zp zA (zp zA (zp zA (zp zA (zp zA zB)))))))) (zR (zR (zR (zR (zR (zR (zR (zR qz))))))))) (zZ (Z9 Z).up r (zp (zc 0) (zp zA zB))))) (zr (jH (jD (ka r) (zc 1) zA) (zr (qk (jF (qB (N:=["_law_a","_law_many"]) 1 [2] (yz rfl Z.B.jG (zc 2)) (λ_ _ _=>⟨qj 0 (ql (by kernel_rfl)),qD,qv (jF (qB (N:=["_law_b","_law_a","_law_many"]) 1 [0,1] (yz rfl Z.B.jG (zc 1)) (λ_ _ _=>⟨qj 0 (ql (by kernel_rfl)),qD,qv (Om rfl Z.B.Ms (Vn Z.B.Uq (Qh (zc 1) (zc 0))) (Qh (zc 2) (Vn Z.B.Uq (Qh (zc 1) (zc 0)))))⟩)))⟩)))) zE) zE) (zr (jH (jD (ka r) (zc 1) zA) (zr (qO 2 kR.nd (jl (jM (zp zA (zp zA (zp zA zB))) (zR (zR (zR qz)))) (zZ (Z9 Z).up r (zp (zc 0) (zp zA zB))))) (zr (qk (jF (qB (N:=["_law_a","_law_many"]) 1 [2] (yz rfl Z.B.jG (zc 2)) (λ_ _ _=>⟨qj 0 (ql (by kernel_rfl)),qD,qv (jF (qB (N:=["_law_b","_law_a"]) 1 [0] (yz rfl Z.B.jG (zc 1)) (λ_ _ _=>⟨qj 0 (ql (by kernel_rfl)),qD,qv (jl (jM (zp zA (zp zA (zp zA (zp zA (zp zA (zp zA (zp zA (zp zA zB)))))))) (zR (zR (zR (zR (zR (zR (zR (zR qz))))))))) (OG (zc 1) (zc 0)))⟩)))⟩)))) zE)) zE) (zr (jH (jD (ka r) (zc 1) zA) (zr (qk (jF (qB (N:=["_law_a","_law_many"]) 1 [2] (yz rfl Z.B.jG (zc 2)) (λ_ _ _=>⟨qj 0 (ql (by kernel_rfl)),qD,qv (jF (qB (N:=["_law_b","_law_a"]) 1 [0] (yz rfl Z.B.jG (zc 1)) (λ_ _ _=>⟨qj 0 (ql (by kernel_rfl)),qD,qv (YG Z.B.Yd (kK (kL r) (zc 1) (zc 0)))⟩)))⟩)))) zE) zE) (zr (jH (jD (ka r) (zc 1) zA) (zr (WL (jl (jM (zp (j8 (zp zA (zp zA zB)) (zR (zR qz))) (zp (j8 (zp zA (zp zA zB)) (zR (zR qz))) (zp (j8 (zp zA (zp zA zB)) (zR (zR qz))) (zp (j8 (zp zA (zp zA zB)) (zR (zR qz))) (zp (j8 (zp zA (zp zA zB)) (zR (zR qz))) zB))))) (zR (zR (zR (zR (zR qz)))))) (zZ (Z9 Z).up r (zp (zc 0) (zp zA zB)))) (yX 3 4 rfl kR.nd)) (zr (qO 2 kR.nd (kY (zc 3) (zc 4))) (zr (qk (jF (qB (N:=["_law_a","_law_many","_law_wide"]) 1 [2,3] (yz rfl Z.B.jG (zc 2)) (λ_ _ _=>⟨qj 0 (ql (by kernel_rfl)),qD,qv (jF (qB (N:=["_law_b","_law_a","_law_wide"]) 1 [0,2] (yz rfl Z.B.jG (zc 1)) (λ_ _ _=>⟨qj 0 (ql (by kernel_rfl)),qD,qv (yO (YG Z.B.Yd (kK (kL r) (zc 1) (zc 0))) (YG Z.B.Yd (kK (kL r) (JJ (zc 1) (zc 2)) (JJ (zc 0) (zc 2)))))⟩)))⟩)))) zE))) zE) (zr (jH (jD (ka r) (zc 1) zA) (zr (qO 5 kR.nd (jM (zp (j8 (zp zA (zp zA zB)) (zR (zR qz))) (zp (j8 (zp zA (zp zA zB)) (zR (zR qz))) (zp (j8 (zp zA (zp zA zB)) (zR (zR qz))) (zp (j8 (zp zA (zp zA zB)) (zR (zR qz))) (zp (j8 (zp zA (zp zA zB)) (zR (zR qz))) (zp (j8 (zp zA (zp zA zB)) (zR (zR qz))) zB)))))) (zR (zR (zR (zR (zR (zR qz)))))))) (zr (qk (jF (qB (N:=["_law_a","_law_some"]) 1 [5] (jb (zc 5)) (λ_ _ _=>⟨qj 0 (ql (by kernel_rfl)),qD,qv (jF (qB (N:=["_law_b","_law_a"]) 1 [0] (jb (zc 1)) (λ_ _ _=>⟨qj 0 (ql (by kernel_rfl)),qD,qv (Qh zA (kx Z.B.kA (yf (qB (N:=["_law_one","_law_b"]) 1 [0] (jb (zc 1)) (λ_ _ _=>⟨qj 0 (ql (by kernel_rfl)),g8 (Zh Ko (zc 0) (zc 1)),qv (zc 0)⟩)))))⟩)))⟩)))) zE)) zE) (zr (jH (jD (ka r) (zc 1) zA) (zr (qO 2 kR.nd (jl (jM (zp zA (zp zA (zp zA zB))) (zR (zR (zR qz)))) (zZ (Z9 Z).up r (zp (zc 0) (zp zA zB))))) (zr (qk (jF (qB (N:=["_law_a","_law_many"]) 1 [2] (yz rfl Z.B.jG (zc 2)) (λ_ _ _=>⟨qj 0 (ql (by kernel_rfl)),qD,qv (jF (qB (N:=["_law_b","_law_a"]) 1 [0] (yz rfl Z.B.jG (zc 1)) (λ_ _ _=>⟨qj 0 (ql (by kernel_rfl)),qD,qv (OG (zc 1) (zc 0))⟩)))⟩)))) zE)) zE) (zr (qO 3 kR.nd (jl (jM (zp zA (zp zA (zp zA zB))) (zR (zR (zR qz)))) (zZ (Z9 Z).up r (zp (zc 0) (zp zA zB))))) (zr (qO 6 kR.nd (jM (zp zA (zp zA (zp (jl (jM (zp zA (zp zA zB)) (zR (zR qz))) (YG Z.B.Yd (kK (ka r) (zc 3) zA))) (zp zA zB)))) (zR (zR (zR (zR qz)))))) (zr (qO 7 kR.nd (jM zB qz)) (zr (yZ PassesOwn.never rfl (yz rfl Z.B.jG (kY zA (zc 3))) (qj 8 kR.nd) (zr (qO 9 kR.nd (jF (qB (N:=["_law_b","_law_wide","_law_ring","_law_a"]) 1 [3,6,8] (yz rfl Z.B.jG (kY zA (zc 3))) (λ_ _ _=>⟨qj 0 (ql (by kernel_rfl)),qD,qv (jl (zc 2) (Q2 (Vn Z.B.Uq (Qh (zc 3) (zc 0))) (zc 1)))⟩)))) (zr (qO 10 kR.nd (jF (qB (N:=["_law_b","_law_wide","_law_a"]) 1 [3,8] (yz rfl Z.B.jG (kY zA (zc 3))) (λ_ _ _=>⟨qj 0 (ql (by kernel_rfl)),qD,qv (YG Z.B.Yd (kK (kL r) (JJ (zc 2) (zc 1)) (JJ (zc 0) (zc 1))))⟩)))) (zr (jH (jD (ka r) (zc 1) zA) (zr (km (YB (zc 7) (jF (qB (N:=["_law_b","_law_near","_law_far"]) 1 [9,10] (yz rfl Z.B.jG (kY zA (zc 3))) (λ_ _ _=>⟨qj 0 (ql (by kernel_rfl)),qD,qv (yO (kY zA (jl (zc 2) (zc 0))) (jl (zc 1) (zc 0)))⟩))))) zE) (zr (km (YB (zc 7) (jF (qB (N:=["_law_b","_law_near","_law_far"]) 1 [9,10] (yz rfl Z.B.jG (kY zA (zc 3))) (λ_ _ _=>⟨qj 0 (ql (by kernel_rfl)),qD,qv (fv (jD (ka r) (jl (zc 2) (zc 0)) zA) zA (jl (zc 1) (zc 0)))⟩))))) zE)) zE)))) (zr (qk (zc 7)) zE)))))))))))):zK P w K mg base 2 "_law_plain" 1 Xv)
def LZ (Z:Zz K h mg):zK P w K mg base 3 "is_wholes_below" 3 Yt:=by
 obtain⟨f,fd,F,a⟩:=Z.T.L1;exact(ja F (a7 Z.X Z.G a) LS (λ_ _ _ _ _ _=>GC λ_ _ _=>rfl) λc A outer s H E r=>zr (qk (Zb (zZ (Fm Z).up r (zp (zc 0) (zp (zc 1) zB))) (ZF (Qf rfl Z.B.Qt (yf (qB (N:=["part","limit"]) 1 [2] (jb (zc 0)) (λ_ _ _=>⟨qj 0 (ql (by kernel_rfl)),qD,qv (N0 Kr UC zA (zc 0) (zc 1))⟩))))))) (zE):zK P w K mg base 3 "is_wholes_below" 3 G6)
def Ti (Z:Zz K h mg):zK P w K mg base 3 "is_rising_wholes" 3 Js:=by
 obtain⟨f,fd,F,a⟩:=Z.T.LU;exact(ja F (a7 Z.X Z.G a) LN (λ_ _ _ _ _ _=>GC λ_ _ _=>rfl) λc A outer s H E r=>zr (jH (wR (wu (JZ .tup Z.B.JB Z.B.ko (by rfl) (zc 0)))) (zr (qk yJ) zE) zE) (zr (qk (Zb (Qf rfl Z.B.Qt (yf (qB (N:=["part","least","greatest"]) 1 [1,2] (jb (zc 0)) (λ_ _ _=>⟨qj 0 (ql (by kernel_rfl)),qD,qv (zZ (LY Z).up r (zp (zc 0) (zp (zc 1) (zp (zc 2) zB))))⟩)))) (ZF (zZ (S8 Z).up r (zp (zc 0) zB))))) zE):zK P w K mg base 3 "is_rising_wholes" 3 G2)
def Ss (Z:Zz K h mg):zK P w K mg base 3 "kind_shares" 1 K2:=by
 obtain⟨f,fd,F,a⟩:=Z.T.Hd;exact(ja F (a7 Z.X Z.G a) Xm (λ_ _ _ _ _ _=>yx λ_=>rfl) λc A outer s H E r=>zr (qO 1 Xm.nd (zZ (Sr Z).up r (zp (zc 0) zB))) (zr (We 2 (N:=["kind","firsts"]) 1 [1] Xm.nd rfl (cps (by kernel_rfl)) (by kernel_rfl) (yz rfl Z.B.jG (zZ (JA Z).up r (zp (zc 0) zB))) (λ_ _ _=>⟨qj 0 (ql (by kernel_rfl)),qD,qv (Pn r (zc 1) (zc 0))⟩)) (zr (qk (jF (qB (N:=["a","b","table"]) 2 [0] (jb (zc 2)) (λ_ _ _=>⟨yX 0 1 rfl (ql (by kernel_rfl)),qD,qv (zZ (Xk Z).up r (zp (zc 2) (zp (zc 0) (zp (zc 1) zB))))⟩)))) zE)):zK P w K mg base 3 "kind_shares" 1 Sl).iso
def Xl (Z:Zz K h mg):zK P w K mg base 3 "search_break" 1 Z7:=by
 obtain⟨f,fd,F,a⟩:=Z.T.ID;exact(ja F (a7 Z.X Z.G a) Yw (λ_ _ _ _ _ _=>yx λ_=>rfl) λc A outer s H E r=>zr (yZ PassesOwn.never rfl (Ee (zZ (Sr Z).up r (zp (zc 0) zB))) (E1 1 2 3 rfl Yw.nd) (zr (qO 4 Yw.nd (zZ (Xk Z).up r (zp (zc 0) (zp (zc 2) (zp (zc 3) zB))))) (zr (yZ PassesOwn.never rfl (ZA rfl Z.B.g0 (zc 0)) (yX 5 6 rfl Yw.nd) (zr (yZ PassesOwn.never rfl (ZA rfl Z.B.g0 (zc 6)) (yX 7 8 rfl Yw.nd) (zr (jH (gD (OV (jD (ka r) (zc 8) (zc 1)) (PD (jD (kL r) (zZ (Xk Z).up r (zp (zc 0) (zp (zc 5) (zp (zc 7) zB)))) (zc 4))))) (zr (qk (j8 (zp (zc 2) (zp (zc 3) (zp (zc 5) (zp (zc 7) zB)))) (zR (zR (zR (zR qz)))))) zE) zE) zE)) zE)) zE))) (zr (qk WM) zE):zK P w K mg base 3 "search_break" 1 T6).iso
def Hg (Z:Zz K h mg):zK P w K mg base 3 "_law_known" 1 QP:=by
 obtain⟨f,fd,F,a⟩:=Z.T.HJ;exact(ja F (a7 Z.X Z.G a) K1 (λ_ _ _ _ _ _=>yx λ_=>rfl) λc A outer s H E r=>zr (qO 1 K1.nd (zZ (HA Z).up r (zp (zZ (HD Z).up r (zp (zc 0) zB)) zB))) (zr (qO 2 K1.nd (zZ (TM Z).up r (zp (zc 0) (zp (FL rfl Z.B.J3 Z.B.jG (kx Z.B.kA (yq (zc 1)))) zB)))) (zr (qO 3 K1.nd (yO (jM (zp zA zB) (zR qz)) (zZ (TM Z).up r (zp (zc 0) (zp (RW rfl Z.B.J3 Z.B.jG zA (yO zA (YR rfl Z.B.Ya (yf (qB (N:=["_law_row"]) 1 [] (jb (zc 1)) (λ_ _ _=>⟨qj 0 (ql (by kernel_rfl)),qD,qv (YR rfl Z.B.Ya (yq (zc 0)))⟩)))))) zB))))) (zr (qk (gB Z.B.ko (yf (qB (N:=["_law_a","_law_rows","_law_order","_law_kinds"]) 1 [1,2,3] (jb (zc 2)) (λ_ _ _=>⟨qj 0 (ql (by kernel_rfl)),qD,qv (gB Z.B.ko (yf (qB (N:=["_law_b","_law_a","_law_rows","_law_kinds"]) 1 [0,1,3] (jb (zc 2)) (λ_ _ _=>⟨qj 0 (ql (by kernel_rfl)),qD,qv (jl (zc 3) (jl (jl (zc 2) (zc 1)) (zc 0)))⟩))))⟩))))) zE))):zK P w K mg base 3 "_law_known" 1 K3).Zp
def RM (Z:Zz K h mg):zK P w K mg base 4 "is_table" 1 JF:=by
 obtain⟨f,fd,F,a⟩:=Z.T.FK;exact(ja F (a7 Z.X Z.G a) Rm (λ_ _ _ _ _ _=>yx λ_=>rfl) λc A outer s H E r=>zr (jH (gD (gH (wR (wu (JZ .tup Z.B.JB Z.B.ko (by rfl) (zc 0)))) (ZH (wR (fw Kr Kr zA (kx Z.B.kA (yq (zc 0))) (PH rfl Z.B.IS.choose_spec)))))) (zr (qk yJ) zE) zE) (zr (qO 1 Rm.nd (kx Z.B.kA (yq (zc 0)))) (zr (jH (wR (wu (Qf rfl Z.B.Qt (yf (qB (N:=["row","many"]) 1 [1] (jb (zc 0)) (λ_ _ _=>⟨qj 0 (ql (by kernel_rfl)),qD,qv (zZ (LZ Z).up r (zp (zc 0) (zp (zc 1) (zp (zc 1) zB))))⟩)))))) (zr (qk yJ) zE) zE) (zr (qk (Zb (zZ (F7 Z).up r (zp (zc 0) zB)) (ZF (zZ (LD Z).up r (zp (zc 0) zB))))) zE))):zK P w K mg base 4 "is_table" 1 XO)
def Tz (Z:Zz K h mg):zK P w K mg base 4 "is_parting_list" 2 Yu:=by
 obtain⟨f,fd,F,a⟩:=Z.T.L8;exact(ja F (a7 Z.X Z.G a) GY (λ_ _ _ _ _ _=>kH λ_ _=>rfl) λc A outer s H E r=>zr (qO 2 GY.nd (Qh (zZ (JA Z).up r (zp (zc 0) zB)) zA)) (zr (jH (gD (gH (wR (wu (JZ .lst Z.B.JB Z.B.J3 (by rfl) (zc 1)))) (ZH (wR (wu (Qf rfl Z.B.Qt (yf (qB (N:=["part","last"]) 1 [2] (jb (zc 1)) (λ_ _ _=>⟨qj 0 (ql (by kernel_rfl)),qD,qv (zZ (Ti Z).up r (zp (zc 0) (zp zA (zp (zc 1) zB))))⟩))))))))) (zr (qk yJ) zE) zE) (zr (We 3 (N:=["part","kind"]) 2 [] GY.nd rfl (cps (by kernel_rfl)) (by kernel_rfl) (jb (zc 1)) (λ_ _ _=>⟨qj 0 (ql (by kernel_rfl)),qD,WG (λ_ _ z=>z) rfl rfl (by intro _ h;cases h<;>rfl) (jb (zc 0)) (qj 1 (ql (by kernel_rfl))) qD (qv (zc 1))⟩)) (zr (qk (Zb (zZ (S8 Z).up r (zp (zc 1) zB)) (Zb (V2 (JO r) (j8 zB qz) (zc 1)) (ZF (kK (ka r) (Di r Z.B.YL (zc 3)) (RW rfl Z.B.J3 Z.B.jG zA (yO (zc 2) zA))))))) zE))):zK P w K mg base 4 "is_parting_list" 2 G7)
def Ie (Z:Zz K h mg):zK P w K mg base 4 "require_closed" 2 Xb:=by
 obtain⟨f,fd,F,a⟩:=Z.T.Ic;exact(ja F (a7 Z.X Z.G a) Tu (λ_ _ _ _ _ _=>kH λ_ _=>rfl) λc A outer s H E r=>zr (qO 2 Tu.nd (zZ (Ss Z).up r (zp (zc 0) zB))) (zr (jH (gD (gH (wR (wu (zZ (Ti Z).up r (zp (zc 1) (zp zA (zp (Qh (kx Z.B.kA (yq (zc 2))) zA) zB)))))) (gH (Zh OU zA (zc 1)) (ZH (wR (wu (zZ (TZ Z).up r (zp (zc 2) (zp (zc 1) zB))))))))) (zr Y0 zE) zE) zE):zK P w K mg base 4 "require_closed" 2 TB).iso
def Jx (Z:Zz K h mg):zK P w K mg base 5 "require_table" 1 Zx:=by
 obtain⟨f,fd,F,a⟩:=Z.T.Il;exact(ja F (a7 Z.X Z.G a) Ig (λ_ _ _ _ _ _=>yx λ_=>rfl) λc A outer s H E r=>zr (jH (wR (wu (zZ (RM Z).up r (zp (zc 0) zB)))) (zr Y0 zE) zE) (zE):zK P w K mg base 5 "require_table" 1 Xd)
def Xu (Z:Zz K h mg):zK P w K mg base 6 "kinds_many" 1 gZ:=by
 obtain⟨f,fd,F,a⟩:=Z.T.Hu;exact(ja F (a7 Z.X Z.G a) IQ (λ_ _ _ _ _ _=>yx λ_=>rfl) λc A outer s H E r=>zr (km (zZ (Jx Z).up r (zp (zc 0) zB))) (zr (qk (zZ (JA Z).up r (zp (zc 0) zB))) zE):zK P w K mg base 6 "kinds_many" 1 Sz).iso
def Rj (Z:Zz K h mg):zK P w K mg base 6 "is_steady" 1 Wd:=by
 obtain⟨f,fd,F,a⟩:=Z.T.HX;exact(ja F (a7 Z.X Z.G a) Hi (λ_ _ _ _ _ _=>yx λ_=>rfl) λc A outer s H E r=>zr (km (zZ (Jx Z).up r (zp (zc 0) zB))) (zr (qk (kK UD (zZ (Xl Z).up r (zp (zc 0) zB)) WM)) zE):zK P w K mg base 6 "is_steady" 1 Rh).iso
def G8 (Z:Zz K h mg):zK P w K mg base 6 "require_steady" 1 Ju:=by
 obtain⟨f,fd,F,a⟩:=Z.T.Ii;exact(ja F (a7 Z.X Z.G a) L5 (λ_ _ _ _ _ _=>yx λ_=>rfl) λc A outer s H E r=>zr (km (zZ (Jx Z).up r (zp (zc 0) zB))) (zr (jH (jD WH (zZ (Xl Z).up r (zp (zc 0) zB)) WM) (zr Y0 zE) zE) zE):zK P w K mg base 6 "require_steady" 1 Xa)
def Ht (Z:Zz K h mg):zK P w K mg base 6 "is_parting" 2 K4:=by
 obtain⟨f,fd,F,a⟩:=Z.T.HF;exact(ja F (a7 Z.X Z.G a) IZ (λ_ _ _ _ _ _=>kH λ_ _=>rfl) λc A outer s H E r=>zr (km (zZ (Jx Z).up r (zp (zc 0) zB))) (zr (qk (zZ (Tz Z).up r (zp (zc 0) (zp (zc 1) zB)))) zE):zK P w K mg base 6 "is_parting" 2 Xw)
def RL (Z:Zz K h mg):zK P w K mg base 6 "made_one" 2 Yz:=by
 obtain⟨f,fd,F,a⟩:=Z.T.FR;exact(ja F (a7 Z.X Z.G a) HY (λ_ _ _ _ _ _=>kH λ_ _=>rfl) λc A outer s H E r=>zr (km (zZ (Jx Z).up r (zp (zc 0) zB))) (zr (jH (wR (wu (zZ (Tz Z).up r (zp (zc 0) (zp (zc 1) zB))))) (zr Y0 zE) zE) (zr (qk (zZ (OF Z).up r (zp (zc 0) (zp (zc 1) zB)))) zE)):zK P w K mg base 6 "made_one" 2 XM)
def L4 (Z:Zz K h mg):zK P w K mg base 6 "steady_partings" 1 Jt:=by
 obtain⟨f,fd,F,a⟩:=Z.T.L3;exact(ja F (a7 Z.X Z.G a) Tj (λ_ _ _ _ _ _=>yx λ_=>rfl) λc A outer s H E r=>zr (km (zZ (Jx Z).up r (zp (zc 0) zB))) (zr (qO 1 Tj.nd (zZ (JA Z).up r (zp (zc 0) zB))) (zr (jH (jD M4 (zc 1) (PH rfl Z.B.LP.choose_spec)) (zr Y0 zE) zE) (zr (qk (FC r Z.B.YL (jF (qB (N:=["parting","table"]) 1 [0] (jb (zZ (Ij Z).up r (zp (zc 1) zB))) (λ_ _ _=>⟨qj 0 (ql (by kernel_rfl)),g8 (jD UD (zZ (Xl Z).up r (zp (zZ (OF Z).up r (zp (zc 1) (zp (zc 0) zB))) zB)) WM),qv (zc 0)⟩))))) zE))):zK P w K mg base 6 "steady_partings" 1 G5).wH
def C1 (Z:Zz K h mg):zK P w K mg base 7 "closed" 1 JP:=by
 obtain⟨f,fd,F,a⟩:=Z.T.Bc;exact(ja F (a7 Z.X Z.G a) YF (λ_ _ _ _ _ _=>yx λ_=>rfl) λc A outer s H E r=>zr (km (zZ (G8 Z).up r (zp (zc 0) zB))) (zr (qO 1 YF.nd (zZ (Ss Z).up r (zp (zc 0) zB))) (zr (qO 2 YF.nd (jM (zp (j8 (zp zA zB) (zR qz)) zB) (zR qz))) (zr (yZ PassesOwn.never rfl (Wx rfl Z.B.jG zA (kx Z.B.kA (yq (zc 1)))) (qj 3 YF.nd) (zr (qO 2 YF.nd (yO (zc 2) (jF (qB (N:=["kinds","kind"]) 1 [3] (jb (zc 2)) (λ_ _ _=>⟨qj 0 (ql (by kernel_rfl)),qD,qv (yO (zc 0) (j8 (zp (zc 1) zB) (zR qz)))⟩))))) zE)) (zr (qk (R3 rfl Z.B.YL (jF (qB (N:=["kinds","shares"]) 1 [1] (jb (zc 2)) (λ_ _ _=>⟨qj 0 (ql (by kernel_rfl)),g8 (wu (zZ (TZ Z).up r (zp (zc 1) (zp (zc 0) zB)))),qv (zc 0)⟩))))) zE)))):zK P w K mg base 7 "closed" 1 X9).iso
def FW (Z:Zz K h mg):zK P w K mg base 7 "together" 2 Wk:=by
 obtain⟨f,fd,F,a⟩:=Z.T.F1;exact(ja F (a7 Z.X Z.G a) Fd (λ_ _ _ _ _ _=>kH λ_ _=>rfl) λc A outer s H E r=>zr (km (zZ (G8 Z).up r (zp (zc 0) zB))) (zr (km (zZ (Ie Z).up r (zp (zc 0) (zp (zc 1) zB)))) (zr (qk (zZ (CV Z).up r (zp (zc 0) (zp (zc 1) zB)))) zE)):zK P w K mg base 7 "together" 2 RN).iso
def Vo (Z:Zz K h mg):zK P w K mg base 7 "sizes" 1 Q0:=by
 obtain⟨f,fd,F,a⟩:=Z.T.As;exact(ja F (a7 Z.X Z.G a) CP (λ_ _ _ _ _ _=>yx λ_=>rfl) λc A outer s H E r=>zr (km (zZ (G8 Z).up r (zp (zc 0) zB))) (zr (qk (zZ (Hf Z).up r (zp (zc 0) zB))) zE):zK P w K mg base 7 "sizes" 1 Nl).iso
def LH (Z:Zz K h mg):zK P w K mg base 8 "_law_parting_right" 2 Z6:=by
 obtain⟨f,fd,F,a⟩:=Z.T.LF;exact(ja F (a7 Z.X Z.G a) GV (λ_ _ _ _ _ _=>kH λ_ _=>rfl) λc A outer s H E r=>zr (qO 2 GV.nd (zZ (RL Z).up r (zp (zc 0) (zp (zc 1) zB)))) (zr (jH (gD (gH (jD WH (zZ (Ht Z).up r (zp (zc 0) (zp (zc 1) zB))) yJ) (gH (jD WH (zZ (RM Z).up r (zp (zc 2) zB)) yJ) (ZH (jD WH (zZ (Rj Z).up r (zp (zc 2) zB)) yJ))))) (zr (qk yJ) zE) zE) (zr (WL (j8 (zp (zZ (Vo Z).up r (zp (zc 0) zB)) (zp (zZ (Vo Z).up r (zp (zc 2) zB)) zB)) (zR (zR qz))) (yX 3 4 rfl GV.nd)) (zr (qk (Zb (kK (ka r) (zZ (Xu Z).up r (zp (zc 2) zB)) (yO zA (kx Z.B.kA (yq (zc 1))))) (ZF (kK (ka r) (YK (zc 4) (YW zA) Y3) (jF (qB (N:=["_law_some","_law_old"]) 1 [3] (jb (zc 1)) (λ_ _ _=>⟨qj 0 (ql (by kernel_rfl)),qD,qv (OI rfl Z.B.Um (yf (qB (N:=["_law_kind","_law_old"]) 1 [1] (jb (zc 0)) (λ_ _ _=>⟨qj 0 (ql (by kernel_rfl)),qD,qv (jl (zc 1) (zc 0))⟩))))⟩))))))) zE))):zK P w K mg base 8 "_law_parting_right" 2 GW)
def LR (Z:Zz K h mg):zK P w K mg base 8 "_law_closed_right" 2 QL:=by
 obtain⟨f,fd,F,a⟩:=Z.T.LO;exact(ja F (a7 Z.X Z.G a) Ys (λ_ _ _ _ _ _=>kH λ_ _=>rfl) λc A outer s H E r=>zr (WL (j8 (zp (zZ (FW Z).up r (zp (zc 0) (zp (zc 1) zB))) (zp (zZ (Vo Z).up r (zp (zc 0) zB)) zB)) (zR (zR qz))) (yX 2 3 rfl Ys.nd)) (zr (qO 4 Ys.nd (OI rfl Z.B.Um (yf (qB (N:=["_law_kind","_law_many"]) 1 [3] (jb (zc 1)) (λ_ _ _=>⟨qj 0 (ql (by kernel_rfl)),qD,qv (jl (zc 1) (zc 0))⟩))))) (zr (jH (gD (gH (jD (kL r) (jF (qB (N:=["_law_lot","_law_wide"]) 1 [4] (jb (zc 2)) (λ_ _ _=>⟨qj 0 (ql (by kernel_rfl)),g8 (jD (kL r) (kx Z.B.kA (yq (zc 0))) (zc 1)),qv (zc 0)⟩))) (jM zB qz)) (ZH (jD (kL r) (kY (kx Z.B.kA (yq (zc 2))) (zc 4)) (kx Z.B.kA (yq (zc 0))))))) (zr (qk yJ) zE) zE) (zr (qO 5 Ys.nd (gB Z.B.ko (yf (qB (N:=["_law_kind","_law_kinds"]) 1 [1] (Wx rfl Z.B.jG zA (zZ (Xu Z).up r (zp (zc 0) zB))) (λ_ _ _=>⟨qj 0 (ql (by kernel_rfl)),g8 (Zh OU (zc 0) (zc 1)),qv (zc 0)⟩))))) (zr (qO 6 Ys.nd (R3 rfl Z.B.YL (jF (qB (N:=["_law_one"]) 1 [] (jb (jM (zp (YK (zc 1) (YW zA) Y3) (zp (zc 5) zB)) (zR (zR qz)))) (λ_ _ _=>⟨qj 0 (ql (by kernel_rfl)),g8 (jD (kL r) (zc 0) (j8 zB qz)),qv (zc 0)⟩))))) (zr (qk (kK UD (zZ (Rj Z).up r (zp (zZ (RL Z).up r (zp (zc 0) (zp (zc 6) zB))) zB)) yJ)) zE))))):zK P w K mg base 8 "_law_closed_right" 2 Tb).iso
end
end G
namespace Mi
open PySem L2
section
def Qj (h:m ρ A=.ok (.tup ws) A1):zN m ρ A=.ok ⟨λA i=>(zW (.tup ws) A).map λws=>ws[i]?,ws.length⟩ A1:=by
 unfold zN Gk;rw[h,zJ]
 rfl
def QW (h:m ρ A=.ok (.tup ws) A)(l:ws.length<=zQ){g:W->W}(he:∀w∈ws,me (some w::cap.map λi=>(ρ[i]?).join) A=.ok (g w) A):
  zH 1 cap (zN m) (zD 0) (qi (.bl true)) (zF me) ρ A=.ok (ws.map g) A:=by
 have e:=wN (cap:=cap) (me:=me) (ρ:=ρ) (A:=A) (N:=ws.length) (item:=λi=>ws.getD i .non) (g:=λi=>g (ws.getD i .non)) (Qj h) rfl l
  (λi H=>by show some ws[i]? =_;rw[aa H,ab,aa H];rfl)
  (by show some ws[ws.length]? =_;rw[aD (ao _)])
  (λi H=>by
   have:ws.getD i .non=ws[i]:=by rw[ab,aa H];rfl
   rw[this];exact he _ (aS H))
 rw[e]
 congr 1
 apply bL
 ·simp
 ·intro i b a
  have H:i<ws.length:=by simpa using a
  simp[ab,aa H]
theorem XY (p:α->Bool):∀l:List α,gE (l.map λx=>W.bl (p x))=some (l.map p)
 |[]=>rfl|x::l=>by
  show(match Kv (.bl (p x)),gE (l.map λx=>W.bl (p x)) with|some k,some ks=>some (k::ks)|_,_=>none)=_
  rw[XY p l];rfl
def QX {p:α->Bool}{l:List α}(h:∀x∈l,p x=true):gM (l.map λx=>W.bl (p x)) A=.ok (.bl true) A:=by
 show ZT (λks=>ks.all id) _ A=_;unfold ZT;rw[XY];dsimp only
 have:(l.map p).all id=true:=by
  rw[all_map];exact cB.mpr λx H=>h x H
 rw[this]
theorem JS {f:α->W}(h:∀x,(f x).nr=true):∀l:List α,qH (l.map f)=true
 |[]=>rfl|x::l=>by
  show((f x).nr&&qH (l.map f))=true;rw[h x,JS h l];rfl
def Yo (i j:Int)(A:Hx):jd (.int i) (.int j) A=.ok (.bl (decide (i=j))) A:=by
 show R.ok (W.bl (PyData.eqv (.int i) (.int j))) A=_;simp[PyData.eqv]
 rfl
def UX (i j:Int)(A:Hx):qR (.int i) (.int j) A=.ok (.bl (!decide (i=j))) A:=by
 show R.ok (W.bl (!PyData.eqv (.int i) (.int j))) A=_;simp[PyData.eqv]
 rfl
def fY (i j:Bool)(A:Hx):qR (.bl i) (.bl j) A=.ok (.bl (!(i==j))) A:=by
 cases i<;>cases j<;>rfl
end
noncomputable def zy (r:b3):W:=.tup (r.map W.int)
def zl (t:b0):W:=.tup (t.map zy)
def YY (r:b3):(zy r).nr=true:=by
 show qH (r.map W.int)=true;exact JS (λ_=>rfl) r
def QZ (t:b0):(zl t).nr=true:=by
 show qH (t.map zy)=true;exact JS YY t
def Pp {st:W->Ex}{N:Nat}{item:Nat->W}{I:En->Prop}(t:∀i,i<N->j.at_ A i=some (some (item i)))(H:j.at_ A N=some none)
  (s:∀i,i<N->∀ρ,I ρ->∃a,st (item i) ρ A=.ok (.nx a) A/\I a):∀(n i:Nat)(ρ:En),i+n=N->I ρ->∃a,ym j st n i ρ A=.ok (.nx a) A/\I a:=by
 intro n
 induction n with
 |zero=>
  intro i ρ h c
  have:i=N:=by omega
  subst this;exact⟨ρ,XS H,c⟩
 |succ n d=>
  intro i ρ h c;obtain⟨ρ1,E,g⟩:=s i (by omega) ρ c
  obtain⟨b,e,f⟩:=d (i+1) ρ1 (by omega) g
  exact⟨b,(Ws (t i (by omega)) E).trans e,f⟩
def QS (h:m ρ A=.ok (.tup ws) A1):j4 m ρ A=.ok (yu (.tup ws) ws.length) A1:=by
 unfold j4;rw[h,zJ]
 rfl
def Q9 {w:W}(h:ws[i]? =some w):(yu (.tup ws) ws.length).at_ A i=some (some (.tup [.int i,w])):=by
 show atEnd ws i _=_;unfold atEnd;rw[h]
def Q5:(yu (.tup ws) ws.length).at_ A ws.length=some none:=by
 show atEnd ws _ _=_;unfold atEnd;rw[aD (ao _)];exact ah rfl
noncomputable def at2 (t:b0)(a b:Nat):Int:=(t.getD a []).getD b 0
structure zX (t:b0):Prop where
 n1:1<=t.length
 n8:t.length<=8
 sq:∀r∈t,r.length=t.length
 lo:∀r∈t,∀v∈r,0<=v/\v<(t.length:Int)
 dg:∀a b,a<t.length->b<t.length->(at2 t a b=0↔a=b)
 sy:∀a b,a<t.length->b<t.length->at2 t a b=at2 t b a
 fu:∀k:Nat,(∃v∈t.flatten,(k:Int)<v)->(k:Int)∈t.flatten
section
variable {a b:Nat}
def k8 (h:a<t.length):(t.map zy)[a]? =some (zy (t.getD a [])):=by
 rw[av,ab,aa h];rfl
def jC (h:a<t.length):t.getD a []∈t:=by
 rw[ab,aa h];exact aS h
def J6 (h:a<t.length):zM (zl t) (.int a) A=.ok (zy (t.getD a [])) A:=by
 unfold zM;show(match wj (t.map zy) (a:Int) with|some w=>R.ok w A|none=>R.bad)=_
 rw[WO (k8 h)]
def int_at {r:b3}(h:b<r.length):(r.map W.int)[b]? =some (.int (r.getD b 0)):=by
 rw[av,ab,aa h];rfl
def VI {r:b3}(h:b<r.length):zM (zy r) (.int b) A=.ok (.int (r.getD b 0)) A:=by
 unfold zM;show(match wj (r.map W.int) (b:Int) with|some w=>R.ok w A|none=>R.bad)=_
 rw[WO (v:=.int (r.getD b 0)) (by rw[av,ab,aa h];rfl)]
end
section
def Cn {c:Option W}(b:∀i,i<ws.length->j.at_ A i=some (some (ws.getD i .non)))(H:j.at_ A ws.length=some none)(he:∀w,me [c,some w] A=.ok w A):
  ∀(f i:Nat)(x:Option W)(acc:List W),i+f=ws.length->acc.length+f<=zQ->∃y,jj j (zD 1) (qi (.bl true)) (zF me) f i [c,x] acc A=.ok ([c,y],acc++ws.drop i) A:=by
 intro f
 induction f with
 |zero=>
  intro i x acc h l
  have:i=ws.length:=by omega
  subst this;refine⟨x,?_⟩;unfold jj;rw[H,drop_length,bI]
 |succ f I=>
  intro i x acc h l;have a:i<ws.length:=by omega
  have E:ws.getD i .non=ws[i]:=by rw[ab,aa a];rfl
  obtain⟨y,e⟩:=I (i+1) (some ws[i]) (acc++[ws[i]]) (by omega) (by rw[aB,bj];omega)
  refine⟨y,?_⟩;rw[jj,b i a,E];dsimp only[zD,List.set,qi];rw[zJ];dsimp only;have d:zF me [c,some ws[i]] acc A=.ok ([c,some ws[i]],acc++[ws[i]]) A:=by
   unfold zF;rw[he,zJ,ah (by omega)]
  rw[d,zJ];rw[e,aU]
  congr 3
  rw[List.singleton_append,<- bb a]
def Pb (d:∀i,i<t.length->j.at_ A i=some (some (zy (t.getD i []))))(H:j.at_ A t.length=some none):
  ∀(f i:Nat)(x y:Option W)(acc:List W),i+f=t.length->acc.length+(t.drop i).flatten.length<=zQ->
   ∃ρ,jj j (zD 0) (qi (.bl true)) (kd (zN (qE 0)) (zD 1) (qi (.bl true)) (zF (qE 1))) f i [x,y] acc A=.ok (ρ,acc++(t.drop i).flatten.map W.int) A:=by
 intro f
 induction f with
 |zero=>
  intro i x y acc h l
  have:i=t.length:=by omega
  subst this;refine⟨[x,y],?_⟩;unfold jj;rw[H,drop_length];simp
 |succ f I=>
  intro i x y acc h l;have a:i<t.length:=by omega
  have r:t.getD i []=t[i]:=by rw[ab,aa a];rfl
  have e:t.drop i=t[i]::t.drop (i+1):=bb a;rw[e,aZ,aB]at l;obtain⟨z,E⟩:=Cn (A:=A) (j:=⟨λA i_1=>(zW (zy t[i]) A).map λws=>ws[i_1]?,(t[i].map W.int).length⟩) (me:=qE 1) (ws:=t[i].map W.int) (c:=some (zy t[i]))
   (λk b=>by
    show some (t[i].map W.int)[k]? =_;rw[ab,aa b];rfl)
   (by show some (t[i].map W.int)[(t[i].map W.int).length]? =_;rw[aD (ao _)])
   (λw=>zm rfl) (t[i].map W.int).length 0 y acc (by omega) (by rw[ag];omega)
  rw[drop_zero]at E;obtain⟨ρ,m⟩:=I (i+1) (some (zy t[i])) z (acc++t[i].map W.int) (by omega) (by rw[aB,ag];omega)
  refine⟨ρ,?_⟩;rw[jj,d i a,r];dsimp only[zD,List.set,qi];rw[zJ];dsimp only;have g:kd (zN (qE 0)) (zD 1) (qi (.bl true)) (zF (qE 1)) [some (zy t[i]),y] acc A=.ok ([some (zy t[i]),z],acc++t[i].map W.int) A:=by
   unfold kd;rw[Qj (ws:=t[i].map W.int) (A1:=A) (zm (i:=0) rfl),zJ];exact E
  rw[g,zJ];rw[m,e,aZ,aQ,aU]
def AU (h:m ρ A=.ok (zl t) A)(H:t.flatten.length<=zQ):
  zH 2 [] (zN m) (zD 0) (qi (.bl true)) (kd (zN (qE 0)) (zD 1) (qi (.bl true)) (zF (qE 1))) ρ A=.ok (t.flatten.map W.int) A:=by
 have hlen:(t.map zy).length=t.length:=ag ..;obtain⟨a,e⟩:=Pb (t:=t) (A:=A) (j:=⟨λA i=>(zW (zl t) A).map λws=>ws[i]?,(t.map zy).length⟩) (λi b=>by show some (t.map zy)[i]? =_;rw[k8 b])
  (by show some (t.map zy)[t.length]? =_;rw[aD (by omega)]) t.length 0 none none [] (by omega) (by simpa using H)
 unfold zH;rw[Qj (ws:=t.map zy) h,zJ];show R.bind (R.nox (jj ⟨λA i=>(zW (zl t) A).map λws=>ws[i]?,(t.map zy).length⟩ _ _ _ (t.map zy).length 0 [none,none] [] A)) _=_;rw[hlen]at e ⊢;rw[e];simp
 rfl
end
theorem Zy:∀l:b3,intsOf (l.map W.int)=some l
 |[]=>rfl|i::l=>by
  show(match intsOf (l.map W.int) with|some is=>some (i::is)|none=>none)=_
  rw[Zy l]
theorem Vc:∀(l:b3)(m:Int),yb l m=m∨yb l m∈l
 |[],_=>.inl rfl|i::l,m=>by
  show yb l (if i > m then i else m)=m∨yb l (if i > m then i else m)∈i::l;rcases Vc l (if i > m then i else m) with e|e
  ·by_cases h:i > m
   ·rw[ah h]at e ⊢;exact .inr (by rw[e];exact ay ..)
   ·rw[aj h]at e ⊢;exact .inl e
  ·exact .inr (aw _ e)
end Mi
namespace G
open PySem L2 Mi
def CF (h:zX t):t.flatten.length<=64:=by
 have:∀l:b0,(∀r∈l,r.length<=8)->l.flatten.length<=8 * l.length:=by
  intro l
  induction l with
  |nil=>intro _;simp|cons r l i=>
   intro H;have e:=H r (ay ..);have d:=i λb a=>H b (aw _ a);rw[aZ,aB,aN];omega
 have c:=h.n8
 have:=this t λr H=>by rw[h.sq r H];exact h.n8
 omega
section
def fZ (h:ρ[i]? =some (some (zl t))):mQ qQ (qo (qE i)) ρ A=.ok (.int t.length) A:=by
 rw[j3 (yY (w:=zl t) (A1:=A) (zm h) rfl)];unfold qQ;rw[ag]
def gC (h:n<1000000):je (n:Int)=true:=by
 unfold je;simp;omega
end
def wU (h:m ρ A=.ok (.ref n) A1)(H:A1[n]? =some (.lst ws)):zN m ρ A=.ok ⟨λA i=>(zW (.ref n) A).map λws=>ws[i]?,ws.length⟩ A1:=by
 unfold zN Gk;rw[h,zJ];have e:zW (.ref n) A1=some ws:=by unfold zW;dsimp only;rw[H]
 rw[e]
def Qk (h:A[n]? =some (.lst ws)):((zW (.ref n) A).map λws=>ws[i]?)=some ws[i]?:=by
 have e:zW (.ref n) A=some ws:=by unfold zW;dsimp only;rw[h]
 rw[e];rfl
def kG:List Int->Int
 |[]=>0|i::is=>yb is i
def Oy {r:b3}(h:r≠[]):yw (r.map W.int) A=.ok (.int (kG r)) A:=by
 unfold yw;rw[Zy];cases r with
 |nil=>exact absurd rfl h|cons i is=>rfl
def Ww {r:b3}(h:r≠[]):kG r∈r:=by
 cases r with
 |nil=>exact absurd rfl h|cons i is=>
  rcases Vc is i with e|e
  ·show yb is i∈_;rw[e];exact ay ..
  ·exact aw _ e
def z9 (t:b0):Int:=kG (t.map kG)+1
section
def _root_.Mi.zX.row_ne (h:zX t){r:b3}(H:r∈t):r≠[]:=λe=>by
 have a:=h.sq r H;have b:=h.n1;rw[e,bE]at a;omega
def _root_.Mi.zX.map_ne (h:zX t):t.map kG≠[]:=λe=>by
 have:=h.n1
 rw[List.map_eq_nil_iff]at e;rw[e]at this;simp at this
def jW (h:zX t):1<=z9 t/\z9 t<=8:=by
 obtain⟨r,H,e⟩:=cz.mp (Ww h.map_ne)
 have:=h.lo r H _ (Ww (h.row_ne H))
 have:=h.n8
 unfold z9;rw[<- e];omega
def Qv (h:zX t){a b:Nat}(H:a<t.length)(d:b<t.length):0<=at2 t a b/\at2 t a b<8:=by
 have c:=h.sq _ (jC H)
 have:(t.getD a []).getD b 0∈t.getD a []:=by
  rw[ab (l:=t.getD a []),aa (by omega)];exact aS _
 have e:=h.lo _ (jC H) _ this
 have:=h.n8
 unfold at2;omega
def gJ (h:q ρ A=.ok ws A1):mQ jK q ρ A=.ok (.tup ws) A1:=(j3 h).trans rfl
end
end G
namespace Mi
open PySem L2
def JR {w:W}{s:Nat}(h:A[n]? =some (.lst ws))(H:ws[s]? =some w):zM (.ref n) (.int (s:Int)) A=.ok w A:=by
 unfold zM;have e:zW (.ref n) A=some ws:=by unfold zW;dsimp only;rw[h]
 rw[e];dsimp only;rw[WO H]
def qZ {u:O}(h:A[n]? =some o):(A++[u])[n]? =some o:=by
 have:=(cA.mp h).1
 rw[ai this];exact h
def qI {u:O}:(A++[u])[A.length]? =some u:=by simp
noncomputable def Jl (μ:Nat->Nat->Int)(a b:Nat)(k:Int):Nat->Nat->Int:=λi j=>if i=a/\j=b then k else μ i j
structure Mu (n:Nat)(μ:Nat->Nat->Int)(c:Nat)(done:Nat->Nat->Prop):Prop where
 dg:∀i,μ i i=0
 sy:∀i j,μ i j=μ j i
 dn:∀i j,i<j->j<n->done i j->1<=μ i j/\μ i j<=(c:Int)
 un:∀i j,i<j->j<n->¬done i j->μ i j=0
 fu:∀k:Nat,1<=k->k<=c->∃i j,i<n/\j<n/\μ i j=(k:Int)
noncomputable def yD (n:Nat)(μ:Nat->Nat->Int):b0:=(List.range n).map λi=>(List.range n).map (μ i)
def YT {j:Nat}(H:i<n)(h:j<n):at2 (yD n μ) i j=μ i j:=by
 unfold at2 yD;rw[ab (l:=(List.range n).map λi=>(List.range n).map (μ i)),av,a6 H];show((List.range n).map (μ i)).getD j 0=_;rw[ab,av,a6 h]
 rfl
def Mu.tab {c:Nat}{d:Nat->Nat->Prop}(h:Mu n μ c d)(all:∀i j,i<j->j<n->d i j)(n1:1<=n)(n8:n<=8)(y:n=1∨c<n):zX (yD n μ):=by
 have len:(yD n μ).length=n:=by unfold yD;simp
 have val:∀i j,i<n->j<n->i≠j->1<=μ i j/\μ i j<=(c:Int):=λi j H f ne=>by
  rcases Nat.lt_or_gt_of_ne ne with q|q
  ·exact h.dn i j q f (all i j q f)
  ·rw[h.sy];exact h.dn j i q H (all j i q H)
 have mem:∀r∈yD n μ,∀v∈r,∃i j,i<n/\j<n/\v=μ i j:=λr g v o=>by
  unfold yD at g;obtain⟨i,H,rfl⟩:=cz.mp g;obtain⟨j,f,rfl⟩:=cz.mp o;exact⟨i,j,cx.mp H,cx.mp f,rfl⟩
 have I:∀i j,i<n->j<n->μ i j∈(yD n μ).flatten:=λi j H f=>List.mem_flatten.mpr ⟨_,cz.mpr ⟨i,cx.mpr H,rfl⟩,cz.mpr ⟨j,cx.mpr f,rfl⟩⟩;refine⟨by rw[len];exact n1,by rw[len];exact n8,λr g=>?_,λr g v o=>?_,λa b m l=>?_,λa b m l=>?_,λk x=>?_⟩
 ·rw[len]
  unfold yD at g;obtain⟨i,H,rfl⟩:=cz.mp g;simp
 ·rw[len]
  obtain⟨i,j,H,f,rfl⟩:=mem r g v o
  by_cases q:i=j
  ·subst q;rw[h.dg];omega
  ·have:=val i j H f q
   omega
 ·rw[len]at m l
  rw[YT m l]
  constructor
  ·intro e
   by_cases q:a=b
   ·exact q
   ·have:=val a b m l q;omega
  ·intro e;subst e;exact h.dg a
 ·rw[len]at m l
  rw[YT m l,YT l m];exact h.sy a b
 ·obtain⟨v,o,t⟩:=x
  obtain⟨r,g,p⟩:=List.mem_flatten.mp o;obtain⟨i,j,H,f,rfl⟩:=mem r g v p
  by_cases K:k=0
  ·subst K
   have:=I 0 0 (by omega) (by omega)
   rw[h.dg]at this;exact this
  ·by_cases q:i=j
   ·subst q;rw[h.dg]at t;omega
   ·have:=val i j H f q
    obtain⟨w,J,u,s,e⟩:=h.fu k (by omega) (by omega)
    have:=I w J u s
    rw[e]at this;exact this
end Mi
namespace G
open PySem L2 Mi
def J4 {i j:Int}(H:-(2 ^ 64)<i)(h:i<2 ^ 64):ji (.int i) (.int j) A=.ok (.int (i * j)) A:=by
 unfold ji;dsimp only;rw[ah];unfold Kt;rw[bH,ak,af,af];exact .inl ⟨H,h⟩
def J1 {i j:Int}(h:0<j):wA (.int i) (.int j) A=.ok (.int (i%j)) A:=by
 unfold wA ZZ;dsimp only;rw[ah];unfold Gv;exact aq h
def NP {i j:Int}(h:0<j)(H:j<1152921504606846976):Zk (.int i) (.int j) A=.ok (.int (i/j)) A:=by
 unfold Zk ZZ;dsimp only;rw[ah];unfold Gf;rw[ak,af,af];exact⟨h,H⟩
def f3 {c m:Int}(h:0<m)(H:m<1000000000000000):Yy [.ref 0,.int m] [.lst [.int c,.bl true]]=.ok (.int (c%m)) [.lst [.int (c/m),.bl true]]:=by
 refine qX ?_;unfold XI;refine qN (A1:=[.lst [.int (c/m),.bl true]]) ?_;refine(Jd (A1:=[.lst [.int c,.bl true]]) rfl).trans ?_;refine(zP (ρ1:=[some (.ref 0),some (.int m),some (.int (c%m)),none]) (A1:=[.lst [.int c,.bl true]]) ?_).trans ?_
 ·refine(qV (w:=.int (c%m)) (A1:=[.lst [.int c,.bl true]]) ?_).trans rfl
  exact(zS (x:=.int c) (y:=.int m) (A1:=[.lst [.int c,.bl true]]) (A2:=[.lst [.int c,.bl true]]) rfl rfl).trans (J1 h)
 ·refine(zP (ρ1:=[some (.ref 0),some (.int m),some (.int (c%m)),none]) (A1:=[.lst [.int (c/m),.bl true]]) ?_).trans rfl
  have e:zi Zk (zi zM zj qp) zt [some (.ref 0),some (.int m),some (.int (c%m)),none] [.lst [.int c,.bl true]]=.ok (.int (c/m)) [.lst [.int c,.bl true]]:=
   (zS (x:=.int c) (y:=.int m) (A1:=[.lst [.int c,.bl true]]) (A2:=[.lst [.int c,.bl true]]) rfl rfl).trans (NP h (by omega))
  unfold wV;rw[e,zJ]
  rfl
noncomputable def QE (c:Int):Int:=(c * 48271+29)%2147483647
noncomputable def gh (d:Int):Int:=(d * d+39373 * d+7)%2147483629
noncomputable def gU (e:Int):Int:=(e * e+16807 * e)%2147483587
def V7 (c:Int):0<=QE c/\QE c<2147483647:=⟨emod_nonneg _ (by decide),bU _ (by decide)⟩
def f7 (c:Int):0<=gh c/\gh c<2147483629:=⟨emod_nonneg _ (by decide),bU _ (by decide)⟩
def f9 {c m:Int}(i:0<=c)(h:c<2147483647)(H:0<m)(j:m<1000000000000000):Yy [.ref 0,.int m] [.lst [.int c,.bl false]]=.ok (.int (gU (gh (QE c))/8%m)) [.lst [.int (QE c),.bl false]]:=by
 have l:=V7 c;refine qX ?_;unfold XI;refine(zP (ρ1:=[some (.ref 0),some (.int m),none,none]) (A1:=[.lst [.int c,.bl false]]) ((ye (A1:=[.lst [.int c,.bl false]]) rfl).trans rfl)).trans ?_;have g:zi wA (zi qY (zi ji (zi zM zj qp) (qi (.int 48271))) (qi (.int 29))) (qi (.int 2147483647)) [some (.ref 0),some (.int m),none,none] [.lst [.int c,.bl false]]=.ok (.int (QE c)) [.lst [.int c,.bl false]]:=by
  have em:zi ji (zi zM zj qp) (qi (.int 48271)) [some (.ref 0),some (.int m),none,none] [.lst [.int c,.bl false]]=.ok (.int (c * 48271)) [.lst [.int c,.bl false]]:=
   (zS (x:=.int c) (y:=.int 48271) (A1:=[.lst [.int c,.bl false]]) (A2:=[.lst [.int c,.bl false]]) rfl rfl).trans (J4 (by omega) (by omega))
  refine(zS (x:=.int (c * 48271+29)) (y:=.int 2147483647) (A1:=[.lst [.int c,.bl false]]) (A2:=[.lst [.int c,.bl false]]) ((zS em rfl).trans rfl) rfl).trans ?_;exact J1 (by decide)
 refine(zP (ρ1:=[some (.ref 0),some (.int m),none,none]) (A1:=[.lst [.int (QE c),.bl false]]) ?_).trans ?_
 ·unfold wV
  rw[g,zJ]
  rfl
 generalize QE c=d at*;have b:zi wA (zi qY (zi qY (zi ji (zi zM zj qp) (zi zM zj qp)) (zi ji (qi (.int 39373)) (zi zM zj qp))) QH) (qi (.int 2147483629)) [some (.ref 0),some (.int m),none,none] [.lst [.int d,.bl false]]=
   .ok (.int (gh d)) [.lst [.int d,.bl false]]:=by
  have em:zi ji (zi zM zj qp) (zi zM zj qp) [some (.ref 0),some (.int m),none,none] [.lst [.int d,.bl false]]=.ok (.int (d * d)) [.lst [.int d,.bl false]]:=
   (zS (x:=.int d) (y:=.int d) (A1:=[.lst [.int d,.bl false]]) (A2:=[.lst [.int d,.bl false]]) rfl rfl).trans (J4 (by omega) (by omega))
  have E:zi ji (qi (.int 39373)) (zi zM zj qp) [some (.ref 0),some (.int m),none,none] [.lst [.int d,.bl false]]=.ok (.int (39373 * d)) [.lst [.int d,.bl false]]:=
   (zS (x:=.int 39373) (y:=.int d) (A1:=[.lst [.int d,.bl false]]) (A2:=[.lst [.int d,.bl false]]) rfl rfl).trans (J4 (by decide) (by decide))
  have s:zi qY (zi ji (zi zM zj qp) (zi zM zj qp)) (zi ji (qi (.int 39373)) (zi zM zj qp)) [some (.ref 0),some (.int m),none,none] [.lst [.int d,.bl false]]=.ok (.int (d * d+39373 * d)) [.lst [.int d,.bl false]]:=
   (zS em E).trans rfl
  refine(zS (x:=.int (d * d+39373 * d+7)) (y:=.int 2147483629) (A1:=[.lst [.int d,.bl false]]) (A2:=[.lst [.int d,.bl false]]) ((zS s rfl).trans rfl) rfl).trans ?_;exact J1 (by decide)
 refine(zP (qV b)).trans ?_;have B:=f7 d;generalize gh d=e at*;have a:zi wA (zi qY (zi ji qg qg) (zi ji (qi (.int 16807)) qg)) (qi (.int 2147483587)) [some (.ref 0),some (.int m),none,some (.int e)] [.lst [.int d,.bl false]]=.ok (.int (gU e)) [.lst [.int d,.bl false]]:=by
  have em:zi ji qg qg [some (.ref 0),some (.int m),none,some (.int e)] [.lst [.int d,.bl false]]=.ok (.int (e * e)) [.lst [.int d,.bl false]]:=
   (zS (x:=.int e) (y:=.int e) (A1:=[.lst [.int d,.bl false]]) (A2:=[.lst [.int d,.bl false]]) rfl rfl).trans (J4 (by omega) (by omega))
  have E:zi ji (qi (.int 16807)) qg [some (.ref 0),some (.int m),none,some (.int e)] [.lst [.int d,.bl false]]=.ok (.int (16807 * e)) [.lst [.int d,.bl false]]:=
   (zS (x:=.int 16807) (y:=.int e) (A1:=[.lst [.int d,.bl false]]) (A2:=[.lst [.int d,.bl false]]) rfl rfl).trans (J4 (by decide) (by decide))
  refine(zS (x:=.int (e * e+16807 * e)) (y:=.int 2147483587) (A1:=[.lst [.int d,.bl false]]) (A2:=[.lst [.int d,.bl false]]) ((zS em E).trans rfl) rfl).trans ?_;exact J1 (by decide)
 refine(zP (qV a)).trans ?_;generalize gU e=f at*;refine qN (jh ?_);refine(zS (x:=.int (f/8)) (y:=.int m) (A1:=[.lst [.int d,.bl false]]) (A2:=[.lst [.int d,.bl false]]) ?_ rfl).trans (J1 H);exact(zS (x:=.int f) (y:=.int 8) (A1:=[.lst [.int d,.bl false]]) (A2:=[.lst [.int d,.bl false]]) rfl rfl).trans (NP (by decide) (by decide))
def jA (n:Nat)(A:Hx):Prop:=∃c b,A[n]? =some (.lst [.int c,.bl b])/\0<=c/\(b=false->c<2147483647)
def Nv (h:jA n A){m:Int}(H:0<m)(g:m<1000000000000000):∃r o,yI [.ref n,.int m] A=.ok (.int r) (A.set n o)/\0<=r/\r<m/\jA n (A.set n o):=by
 obtain⟨c,b,f,d,i⟩:=h;have hn:n<A.length:=(cA.mp f).1;have fin:∀(r C:Int),Yy [.ref 0,.int m] [.lst [.int c,.bl b]]=.ok (.int r) [.lst [.int C,.bl b]]->yI [.ref n,.int m] A=.ok (.int r) (A.set n (.lst [.int C,.bl b])):=λr C e=>by
  unfold yI Zp;dsimp only;rw[f];dsimp only;have a:(qH [W.int c,W.bl b]&&qH [W.int m])=true:=rfl;rw[ah a,e]
  rfl
 cases b with
 |true=>
  refine⟨c%m,_,fin _ _ (f3 H g),emod_nonneg _ (by omega),bU _ H,c/m,true,aT hn,Int.ediv_nonneg d (by omega),λz=>nomatch z⟩
 |false=>
  exact⟨_,_,fin _ _ (f9 d (i rfl) H g),emod_nonneg _ (by omega),bU _ H,QE c,false,aT hn,(V7 c).1,λ_=>(V7 c).2⟩
end G
namespace Mi
open PySem L2
def P8 {k:Nat}{xs y:List W}(h:A[n]? =some (.lst xs))(a:A[k]? =some (.lst y))(H:xs.length+y.length<=zQ):qY (.ref n) (.ref k) A=.ok (.ref A.length) (A++[.lst (xs++y)]):=by
 unfold qY;dsimp only;rw[h,a];dsimp only;rw[ah H]
def Ext (A a:Hx):Prop:=∃l,a=A++l
def Ext.refl:Ext A A:=⟨[],by simp⟩
def Ext.trans {B C:Hx}(a:Ext A B)(b:Ext B C):Ext A C:=let ⟨l,e⟩:=a;let ⟨k,f⟩:=b;⟨l++k,by rw[f,e,aU]⟩
def Ext.one:Ext A (A++[o]):=⟨[o],rfl⟩
def Ext.at {a:Hx}(x:Ext A a)(h:A[n]? =some o):a[n]? =some o:=by
 obtain⟨l,rfl⟩:=x
 have:=(cA.mp h).1
 rw[ai this];exact h
def PZ {ifs:Ev}{N:Nat}
  (H:∀i ρ acc A,i<N->I i ρ acc A->∃w ρ1,j.at_ A i=some (some w)/\tw w ρ=some ρ1/\((∃A1 c a A2,ifs ρ1 A=.ok (.bl true) A1/\em ρ1 acc A1=.ok (c,a) A2/\I (i+1) c a A2)∨(∃A1,ifs ρ1 A=.ok (.bl false) A1/\I (i+1) ρ1 acc A1)))
  (e:∀ρ acc A,I N ρ acc A->j.at_ A N=some none):
  ∀(f i:Nat)(ρ:En)(acc:List W)(A:Hx),i+f=N->I i ρ acc A->∃d b n,jj j tw ifs em f i ρ acc A=.ok (d,b) n/\I N d b n:=by
 intro f
 induction f with
 |zero=>
  intro i ρ acc A h g
  have:i=N:=by omega
  subst this;refine⟨ρ,acc,A,?_,g⟩;unfold jj;rw[e _ _ _ g]
 |succ f m=>
  intro i ρ acc A h g;obtain⟨w,ρ1,q,p,o⟩:=H i ρ acc A (by omega) g
  rw[jj,q];dsimp only;rw[p];dsimp only;rcases o with ⟨A1,c,a,A2,l,r,E⟩|⟨A1,l,E⟩
  ·rw[l,zJ]
   dsimp only;rw[r,zJ];exact m (i+1) _ _ _ (by omega) E
  ·rw[l,zJ]
   dsimp only;exact m (i+1) _ _ _ (by omega) E
def YA {nl:Nat}{ifs:Ev}{N:Nat}(hm:mi ρ A=.ok j A1)(g:j.len=N)
  (h:∀i ρ acc A,i<N->I i ρ acc A->∃w ρ1,j.at_ A i=some (some w)/\tw w ρ=some ρ1/\((∃A1 d b A2,ifs ρ1 A=.ok (.bl true) A1/\em ρ1 acc A1=.ok (d,b) A2/\I (i+1) d b A2)∨(∃A1,ifs ρ1 A=.ok (.bl false) A1/\I (i+1) ρ1 acc A1)))
  (H:∀ρ acc A,I N ρ acc A->j.at_ A N=some none)(h0:I 0 (Q7 nl cap ρ) [] A1):∃c a f,zH nl cap mi tw ifs em ρ A=.ok a f/\I N c a f:=by
 obtain⟨c,a,f,e,l⟩:=PZ h H N 0 _ _ _ (by omega) h0
 refine⟨c,a,f,?_,l⟩;unfold zH;rw[hm,zJ,g,e]
 rfl
def Qa {st:W->Ex}{N:Nat}{I:Nat->En->Hx->Prop}
  (H:∀i ρ A,i<N->I i ρ A->∃w ρ1 A1,j.at_ A i=some (some w)/\st w ρ A=.ok (.nx ρ1) A1/\I (i+1) ρ1 A1)(d:∀ρ A,I N ρ A->j.at_ A N=some none):
  ∀(f i:Nat)(ρ:En)(A:Hx),i+f=N->I i ρ A->∃a c,ym j st f i ρ A=.ok (.nx a) c/\I N a c:=by
 intro f
 induction f with
 |zero=>
  intro i ρ A h b
  have:i=N:=by omega
  subst this;exact⟨ρ,A,XS (d _ _ b),b⟩
 |succ f e=>
  intro i ρ A h b;obtain⟨w,ρ1,A1,m,l,g⟩:=H i ρ A (by omega) b
  rw[Ws m l];exact e (i+1) _ _ (by omega) g
def JL {acc:List W}{y:W}(h:me ρ A=.ok y A1)(H:acc.length<zQ):zF me ρ acc A=.ok (ρ,acc++[y]) A1:=by
 unfold zF;rw[h,zJ,ah H]
theorem take_succ {l:List α}(h:i<l.length):l.take (i+1)=l.take i++[l[i]]:=by
 rw[List.take_succ,aa h];rfl
def Ext.app {B:Hx}{l:Hx}(x:Ext A B):Ext A (B++l):=x.trans ⟨l,rfl⟩
def ZC (h:A[n]? =some o):n<A.length:=(cA.mp h).1
end Mi
namespace G
open PySem L2 Mi
def ZK {w:W}(H:A[n]? =some (.lst ws))(h:ws[i]? =some w):((zW (.ref n) A).map λws=>ws[i]?)=some (some w):=by
 rw[Qk H,h]
def ZL (H:A[n]? =some (.lst ws))(h:ws.length<=i):((zW (.ref n) A).map λws=>ws[i]?)=some none:=by
 rw[Qk H,aD h]
theorem WU:∀(l:b3)(m:Int),m<=yb l m/\∀x∈l,x<=yb l m
 |[],m=>⟨Int.le_refl _,λx h=>by cases h⟩|y::l,m=>by
  unfold yb
  split
  ·rename_i c
   obtain⟨b,a⟩:=WU l y;refine⟨by omega,λx H=>?_⟩
   rcases cy.mp H with rfl|H
   ·exact b
   ·exact a x H
  ·rename_i c
   obtain⟨b,a⟩:=WU l m;refine⟨b,λx H=>?_⟩;rcases cy.mp H with rfl|H
   ·omega
   ·exact a x H
theorem RU:∀{l:List α}{k:Nat}{w:α},l[k]? =some w->l.Perm (w::l.eraseIdx k)
 |[],_,_,h=>by simp at h|x::l,0,w,h=>by
  simp at h;subst h;simp
 |x::l,k+1,w,h=>by
  rw[List.getElem?_cons_succ]at h;rw[List.eraseIdx_cons_succ];exact((RU h).cons x).trans (List.Perm.swap w x _)
def FA {k:Nat}{i:Int}{w:W}(h:A[n]? =some (.lst ws))(hw:ws[k]? =some w)(H:je i=true)(e:seqIndex? i ws.length=some k):Zd (.ref n) (.int i) A=.ok w (A.set n (.lst (ws.eraseIdx k))):=by
 unfold Zd;dsimp only;rw[h];dsimp only;rw[ah H,e];dsimp only;rw[hw]
def gw {k:Nat}(h:k<n):seqIndex? (k:Int) n=some k:=by
 have:=PySem.StrLaws.seqIndex_nonneg (i:=(k:Int)) (n:=n) (by omega) (by omega)
 rw[aG]at this;exact this
def Dc {k:Nat}{w:W}(h:A[n]? =some (.lst ws))(hw:ws[k]? =some w)(H:k<1000000):Zd (.ref n) (.int (k:Int)) A=.ok w (A.set n (.lst (ws.eraseIdx k))):=
 FA h hw (G.gC H) (gw (cA.mp hw).1)
theorem R7 {β:Type}(f:α->β):∀(l:List α)(k:Nat),(l.map f).eraseIdx k=(l.eraseIdx k).map f
 |[],_=>rfl|_::_,0=>rfl|a::l,k+1=>by
  rw[aF,List.eraseIdx_cons_succ,List.eraseIdx_cons_succ,aF,R7 f l k]
def Wz {a b:Ev}{y:W}(c:a ρ A=.ok (.ref n) A)(d:A[n]? =some (.lst ws))(H:b ρ A=.ok y A1):yK g a b ρ A=g (.ref n) y A1:=by
 unfold yK;have h:Yr (.ref n) A=true:=by unfold Yr;dsimp only;rw[d]
 rw[c,zJ,ah h,H,zJ]
def RD {y:W}(h:A[n]? =some (.lst ws))(H:ws.length<1000):kI (.ref n) y A=.ok .non (A.set n (.lst (ws++[y]))):=by
 unfold kI;dsimp only;rw[h];dsimp only;rw[ah (by unfold zQ;omega)]
def Bf {f:Fn}{us:List W}{c C:Int}{b B:Bool}{w:W}(a:A[n]? =some (.lst [.int c,.bl b]))(H:qH us=true)(h:f (.ref 0::us) [.lst [.int c,.bl b]]=.ok w A1)(g:A1[0]? =some (.lst [.int C,.bl B]))(hw:w.nr=true):Zp f (.ref n::us) A=.ok w (A.set n (.lst [.int C,.bl B])):=by
 unfold Zp;dsimp only;rw[a];dsimp only;have e:(qH [W.int c,W.bl b]&&qH us)=true:=by rw[H];rfl
 rw[ah e,h];dsimp only;rw[List.head?_eq_getElem?,g];dsimp only;have d:(qH [W.int C,W.bl B]&&w.nr)=true:=by rw[hw];rfl
 rw[ah d]
noncomputable abbrev iL (l:b7):List W:=l.map λ(a:Nat)=>W.int (a:Int)
def F4 (h:m ρ A=.ok (.int (n:Int)) A1)(hn:n<=100):YX m ρ A=.ok (.ref A1.length) (A1++[.lst (iL (List.range n))]):=by
 unfold YX;rw[h,zJ];dsimp only;rw[gC (by omega),aG,aq (by unfold zQ;omega)]
 rfl
def CZ {o:List α}{f:α->W}{G:α->W}(h:m ρ A=.ok (.tup (o.map f)) A)(l:o.length<=zQ)(he:∀a∈o,me (some (f a)::cap.map λi=>(ρ[i]?).join) A=.ok (G a) A):
  zH 1 cap (zN m) (zD 0) zT (zF me) ρ A=.ok (o.map G) A:=by
 by_cases h0:o=[]
 ·subst h0
  have e:=wN (cap:=cap) (me:=me) (ρ:=ρ) (A:=A) (N:=0) (item:=λ_=>.non) (g:=λ_=>.non) (Qj h) rfl (by unfold zQ;omega) (λi H=>by omega) rfl (λi H=>by omega)
  exact e
 ·obtain⟨x,c⟩:∃x,x∈o:=List.exists_mem_of_ne_nil o h0
  have e:=wN (cap:=cap) (me:=me) (ρ:=ρ) (A:=A) (N:=o.length) (item:=λi=>f (o.getD i x)) (g:=λi=>G (o.getD i x)) (Qj h) (ag ..) l
   (λi H=>by show some (o.map f)[i]? =_;rw[av,aa H,ab,aa H];rfl)
   (by show some (o.map f)[o.length]? =_;rw[aD (by rw[ag];exact ao _)])
   (λi H=>by
    have:o.getD i x=o[i]:=by rw[ab,aa H];rfl
    rw[this];exact he _ (aS H))
  rw[e]
  congr 1
  apply bL
  ·simp
  ·intro i d b
   have H:i<o.length:=by simpa using b
   simp[ab,aa H]
def QO {β:Type}(o:List α)(x:α)(f:α->β):o.map f=(List.range o.length).map λi=>f (o.getD i x):=by
 apply bL
 ·simp
 ·intro i H a
  have h:i<o.length:=by simpa using H
  simp[ab,aa h]
def WQ (q:∀r∈t,r.length=t.length){v:Int}(h:v∈t.flatten):∃a b,a<t.length/\b<t.length/\at2 t a b=v:=by
 obtain⟨r,H,e⟩:=List.mem_flatten.mp h;obtain⟨a,d,g⟩:=aW H;obtain⟨b,c,f⟩:=aW e;refine⟨a,b,d,by rw[<- q r H];exact c,?_⟩
 unfold at2;have E:t.getD a []=r:=by rw[ab,aa d];exact g
 rw[E,ab,aa c];exact f
def Ow (q:∀r∈t,r.length=t.length){a b:Nat}(e:a<t.length)(d:b<t.length):∃r∈t,at2 t a b∈r/\at2 t a b∈t.flatten:=by
 have H:t.getD a []∈t:=jC e;have c:at2 t a b∈t.getD a []:=by
  unfold at2;have h:b<(t.getD a []).length:=by rw[q _ H];exact d
  rw[ab (l:=t.getD a []),aa h];exact aS _
 exact⟨_,H,c,List.mem_flatten.mpr ⟨_,H,c⟩⟩
def WR {r:b3}{x:Int}(h:x∈r):x<=kG r:=by
 cases r with
 |nil=>cases h|cons i is=>
  show x<=yb is i;rcases cy.mp h with rfl|h
  ·exact(WU is x).1
  ·exact(WU is i).2 x h
section
def JY (h:zX t){a b:Nat}(d:a<t.length)(c:b<t.length):at2 t a b<z9 t:=by
 obtain⟨r,H,e,_⟩:=Ow h.sq d c;have f:=WR e;have E:=WR (cz.mpr ⟨r,H,rfl⟩:kG r∈t.map kG);unfold z9;omega
def Y1 (h:zX t):z9 t-1∈t.flatten:=by
 obtain⟨r,H,e⟩:=cz.mp (Ww h.map_ne)
 have:z9 t-1=kG r:=by unfold z9;omega
 rw[this];exact List.mem_flatten.mpr ⟨r,H,Ww (h.row_ne H)⟩
def N1 (h:zX t):z9 t<=(t.length:Int):=by
 obtain⟨r,a,H⟩:=List.mem_flatten.mp (Y1 h)
 have:=h.lo r a _ H
 omega
def Kb (h:zX t){v:Nat}(H:(v:Int)<z9 t):∃a b,a<t.length/\b<t.length/\at2 t a b=(v:Int):=by
 by_cases e:(v:Int)=z9 t-1
 ·rw[e];exact WQ h.sq (Y1 h)
 ·exact WQ h.sq (h.fu v ⟨_,Y1 h,by omega⟩)
noncomputable def qU (p:b7):b3:=0::p.map λ(k:Nat)=>1+(k:Int)
def wz (t:b0)(p o:b7):b0:=o.map λa=>o.map λb=>(qU p).getD (at2 t a b).toNat 0
def Qi {p:b7}{v:Nat}(H:1<=v)(h:v<=p.length):(qU p).getD v 0=1+((p[v-1]'(by omega):Nat):Int):=by
 obtain⟨v,rfl⟩:∃u,v=u+1:=⟨v-1,by omega⟩
 unfold qU;rw[ab,List.getElem?_cons_succ,av,aa (by omega)]
 rfl
def X5 (h:zX t){p o:b7}(m:p.Perm (List.range (z9 t-1).toNat))(f:o.Perm (List.range t.length)):zX (wz t p o)/\(wz t p o).length=t.length:=by
 have l:o.length=t.length:=by rw[f.length_eq,aE]
 have J:=jW h;have K:=N1 h;have z:p.length=(z9 t-1).toNat:=by rw[m.length_eq,aE]
 have n1:=h.n1;have H:∀i,o.getD i 0<t.length:=λi=>by
  by_cases hi:i<o.length
  ·rw[ab,aa hi]
   exact cx.mp (f.mem_iff.mp (aS hi))
  ·rw[ab,aD (by omega)]
   exact n1
 have s:o.Nodup:=(f.nodup_iff).mpr bX;have r:∀a,a<t.length->∃i,i<t.length/\o.getD i 0=a:=λa x=>by
  obtain⟨i,hi,e⟩:=aW (f.mem_iff.mpr (cx.mpr x));exact⟨i,by omega,by rw[ab,aa hi];exact e⟩
 have c:∀q (g:q<p.length),p[q]<p.length:=λq g=>by
  have:=cx.mp (m.mem_iff.mp (aS g))
  omega
 have M:Mu t.length (λi j=>(qU p).getD (at2 t (o.getD i 0) (o.getD j 0)).toNat 0) p.length (λ_ _=>True):=by
  refine⟨λi=>?_,λi j=>?_,λi j A y _=>?_,λi j _ _ hn=>absurd trivial hn,λk L kc=>?_⟩
  ·show(qU p).getD (at2 t (o.getD i 0) (o.getD i 0)).toNat 0=0
   rw[(h.dg _ _ (H i) (H i)).mpr rfl]
   rfl
  ·show(qU p).getD (at2 t (o.getD i 0) (o.getD j 0)).toNat 0=(qU p).getD (at2 t (o.getD j 0) (o.getD i 0)).toNat 0
   rw[h.sy _ _ (H i) (H j)]
  ·show 1<=(qU p).getD (at2 t (o.getD i 0) (o.getD j 0)).toNat 0/\(qU p).getD (at2 t (o.getD i 0) (o.getD j 0)).toNat 0<=(p.length:Int)
   have n:o.getD i 0≠o.getD j 0:=by
    have w:i<o.length:=by omega
    have u:j<o.length:=by omega
    rw[ab,aa w,ab,aa u];intro e;have I:o[i]=o[j]:=e
    have:=(getElem_inj s).mp I
    omega
   have d:=h.dg _ _ (H i) (H j);have Q:=Qv h (H i) (H j);have P:=JY h (H i) (H j);have N:at2 t (o.getD i 0) (o.getD j 0)≠0:=λe=>n (d.mp e);rw[Qi (by omega) (by omega)]
   have:=c ((at2 t (o.getD i 0) (o.getD j 0)).toNat-1) (by omega)
   omega
  ·obtain⟨q,g,e⟩:=aW (m.mem_iff.mpr (cx.mpr (by omega:k-1<(z9 t-1).toNat)))
   obtain⟨a,b,x,B,D⟩:=Kb h (v:=q+1) (by omega)
   obtain⟨i,hi,C⟩:=r a x;obtain⟨j,y,E⟩:=r b B;refine⟨i,j,hi,y,?_⟩;show(qU p).getD (at2 t (o.getD i 0) (o.getD j 0)).toNat 0=(k:Int);rw[C,E,D,aG,Qi (by omega) (by omega)]
   have:p[q+1-1]'(by omega)=k-1:=e
   rw[this];omega
 have hT:wz t p o=yD t.length (λi j=>(qU p).getD (at2 t (o.getD i 0) (o.getD j 0)).toNat 0):=by
  unfold wz yD;rw[QO o 0,l]
  congr 1
  funext i
  rw[QO o 0 (λb=>(qU p).getD (at2 t (o.getD i 0) b).toNat 0),l]
 refine⟨?_,by unfold wz;rw[ag,l]⟩
 rw[hT];exact M.tab (λ_ _ _ _=>trivial) n1 h.n8 (.inr (by omega))
end
end G
namespace Mi
open PySem L2
def BQ {r b:Nat}{v:W}(h:A[r]? =some (.lst ws))(H:b<ws.length):wG (.ref r) (.int (b:Int)) v A=.ok () (A.set r (.lst (ws.set b v))):=by
 have e:gq ws.length (b:Int)=some b:=by unfold gq;rw[ah (by omega),ah (by omega),aG]
 unfold wG;dsimp only;rw[h];dsimp only;rw[e]
structure Kp (n:Nat)(A B:Hx):Prop where
 len:A.length<=B.length
 at_:∀i,i<A.length->i≠n->B[i]? =A[i]?
section
variable {B C:Hx}
theorem Kp.trans (a:Kp n A B)(b:Kp n B C):Kp n A C:=⟨bw a.len b.len,λi H h=>(b.at_ i (aJ H a.len) h).trans (a.at_ i H h)⟩
theorem Kp.set:Kp n A (A.set n o):=⟨by rw[length_set];exact ao _,λi _ h=>aP (Ne.symm h)⟩
def Kp.ext (x:Ext A B):Kp n A B:=by
 obtain⟨l,rfl⟩:=x;exact⟨by simp,λi h _=>ai h⟩
def Kp.put (a:Kp n A B){k:Nat}(h:A.length<=k):Kp n A (B.set k o):=⟨by rw[length_set];exact a.len,λi b H=>by rw[aP (by omega)];exact a.at_ i b H⟩
def Kp.get (a:Kp n A B)(h:A[i]? =some o)(hn:i≠n):B[i]? =some o:=by rw[a.at_ i (ZC h) hn];exact h
end
def Wu:(yD n μ).length=n:=by unfold yD;simp
def BI:∀r∈yD n μ,r.length=(yD n μ).length:=λr h=>by
 obtain⟨i,_,rfl⟩:=cz.mp h;rw[Wu];simp
end Mi
namespace G
open PySem L2 Mi
section
abbrev Sq (t:b0):Prop:=∀r∈t,r.length=t.length
end
def UH (t:b0):Bool:=decide (1<=t.length)&&(decide (t.length<=8)&&((t.all λr=>r.length==t.length&&r.all λv=>decide (0<=v)&&decide (v<(t.length:Int)))&&
 (((List.range t.length).all λa=>(List.range t.length).all λb=>(decide (at2 t a b=0)==decide (a=b))&&decide (at2 t a b=at2 t b a))&&(List.range 8).all λk=>!(t.flatten.any λv=>decide ((k:Int)<v)) || t.flatten.contains (k:Int))))
def AJ (h:UH t=true):zX t:=by
 unfold UH at h;rw[ak,ak,ak,ak,af,af]at h;obtain⟨n1,n8,i,s,hf⟩:=h;have rw_:∀r∈t,r.length=t.length/\∀v∈r,0<=v/\v<(t.length:Int):=λr hm=>by
  have:=cB.mp i r hm
  rw[ak,aV]at this;refine⟨this.1,λv d=>?_⟩
  have:=cB.mp this.2 v d
  rw[ak,af,af]at this;exact this
 have at_:∀a b,a<t.length->b<t.length->(decide (at2 t a b=0)==decide (a=b))=true/\at2 t a b=at2 t b a:=λa b c H=>by
  have:=cB.mp (cB.mp s a (cx.mpr c)) b (cx.mpr H)
  rw[ak,af]at this;exact this
 refine⟨n1,n8,λr hm=>(rw_ r hm).1,λr hm=>(rw_ r hm).2,λa b c H=>?_,λa b c H=>(at_ a b c H).2,λk j=>?_⟩
 ·have:=aV.mp (at_ a b c H).1
  by_cases q:a=b
  ·rw[aq q]at this;exact⟨λ_=>q,λ_=>of_decide_eq_true this⟩
  ·rw[ax q]at this;exact⟨λz=>absurd z (of_decide_eq_false this),λz=>absurd z q⟩
 ·obtain⟨v,d,f⟩:=j
  obtain⟨r,hm,e⟩:=List.mem_flatten.mp d
  have:=(rw_ r hm).2 v e
  have g:=cB.mp hf k (cx.mpr (by omega))
  rw[bH]at g;rcases g with z|z
  ·exfalso
   have:(t.flatten.any λv=>decide ((k:Int)<v))=true:=List.any_eq_true.mpr ⟨v,d,aq f⟩
   rw[this]at z;cases z
  ·exact List.contains_iff_mem.mp z
def kO (t:b0):((zl t).nr&&true)=true:=by rw[QZ];rfl
noncomputable def Li:W->Bool
 |.int _=>true|_=>false
def Ui {w:W}{ty c:Ty}(h:m ρ A=.ok w A1)(ht:QJ w A1=some ty):ZY c m ρ A=.ok (.bl (QC ty c)) A1:=by
 unfold ZY;rw[h,zJ,ht]
def My (h:ρ[i]? =some (some (.tup ws))):mQ qQ (qo (qE i)) ρ A=.ok (.int ws.length) A:=by
 rw[j3 (yY (w:=.tup ws) (A1:=A) (zm h) rfl)]
 rfl
def FX (i:Int)(A:Hx):Qb [.int i] A=.ok (.bl true) A:=by
 unfold Qb Wh;exact qX (w:=.bl true) (A1:=A) rfl
def Ce {r:b3}(h:r.length<=8)(A:Hx):Wf [zy r,.int r.length] A=.ok (.bl true) A:=by
 unfold Wf XG;refine qX ?_;unfold Rb;refine qN (jh ?_);refine(gI (A1:=A) rfl).trans ?_;have e:mQ qQ (qo zj) [some (zy r),some (.int r.length)] A=.ok (.int r.length) A:=by
  rw[j3 (yY (w:=zy r) (A1:=A) (zm rfl) rfl)];unfold qQ;rw[ag]
 refine(gI (A1:=A) ((zS e (zm (i:=1) rfl)).trans ((Yo _ _ _).trans (by rw[aq rfl])))).trans ?_
 have E:=QW (cap:=[]) (A:=A) (ρ:=[some (zy r),some (.int r.length)]) (ws:=r.map W.int) (me:=zC Qb (zh zj zo)) (g:=λ_=>.bl true) (zm (i:=0) rfl) (by rw[ag];unfold zQ;omega) (λw hw=>by
  obtain⟨i,_,rfl⟩:=cz.mp hw;exact(qa (ws:=[.int i]) (A1:=A) rfl).trans (FX i A))
 exact(j3 E).trans (QX (p:=λ_=>true) λ_ _=>rfl)
def Bj {r:b3}(l:r.length<=8)(H:∀v∈r,0<=v/\v<r.length)(A:Hx):Yt [zy r,.int r.length,.int r.length] A=.ok (.bl true) A:=by
 unfold Yt G6;refine qX ?_;unfold Tq;refine qN (jh ?_);refine(gI (A1:=A) ((qa (ws:=[zy r,.int r.length]) (A1:=A) rfl).trans (Ce l A))).trans ?_;have e:=QW (cap:=[2]) (A:=A) (ρ:=[some (zy r),some (.int r.length),some (.int r.length)]) (ws:=r.map W.int) (me:=y9 gQ Z1 (qi (.int 0)) (qE 0) (qE 1)) (g:=λ_=>.bl true) (zm (i:=0) rfl) (by rw[ag];unfold zQ;omega) (λw hw=>by
  obtain⟨v,h,rfl⟩:=cz.mp hw;obtain⟨b,a⟩:=H v h;unfold y9;rw[qW,zJ,zm (i:=0) (w:=.int v) rfl,zJ];show R.bind (R.ok (W.bl (decide ((0:Int)<=v))) A) _=_;rw[aq b,zJ];dsimp only;rw[zm (i:=1) (w:=.int r.length) rfl,zJ];show R.ok (W.bl (decide (v<(r.length:Int)))) A=_;rw[aq a])
 exact(j3 e).trans (QX (p:=λ_=>true) λ_ _=>rfl)
def gy (h:zX t)(A:Hx):X2 [zl t] A=.ok (.bl true) A:=by
 refine Zc (A1:=[]) (kO t) rfl (qX ?_);unfold R4;obtain⟨d,e,_⟩:=Pp (A:=[]) (N:=t.length) (item:=λi=>.tup [.int i,zy (t.getD i [])]) (I:=λρ=>∃Y y2 y3 y,ρ=[some (zl t),Y,y2,y3,y])
  (j:=yu (zl t) (t.map zy).length) (st:=turn (qP 1 2) (zq (jT (j4 zI) (qP 3 4) (zq (qS (jL (zi qR (zi jd qd qp) (zi jd zt qg)) (zi qR (zi zM (zi zM zj qg) zt) qd)) kh zx) zx)) zx))
  (λi g=>Q9 (k8 g)) (by have:=Q5 (A:=[]) (ws:=t.map zy);rw[ag]at this;rw[ag];exact this) (λa f ρ H=>by
   obtain⟨Y,y2,y3,y,rfl⟩:=H;have l:=h.sq _ (jC f);obtain⟨m,E,n,Z,o⟩:=Pp (A:=[]) (N:=t.length) (item:=λi=>.tup [.int i,.int ((t.getD a []).getD i 0)]) (I:=λρ=>∃y3 y,ρ=[some (zl t),some (.int a),some (zy (t.getD a [])),y3,y])
    (j:=yu (zy (t.getD a [])) ((t.getD a []).map W.int).length) (st:=turn (qP 3 4) (zq (qS (jL (zi qR (zi jd qd qp) (zi jd zt qg)) (zi qR (zi zM (zi zM zj qg) zt) qd)) kh zx) zx))
    (λi g=>Q9 (int_at (by omega)))
    (by have:=Q5 (A:=[]) (ws:=(t.getD a []).map W.int);rw[ag,l]at this;rw[ag,l];exact this)
    (λb c ρ H=>by
     obtain⟨y3,y,rfl⟩:=H;refine⟨[some (zl t),some (.int a),some (zy (t.getD a [])),some (.int b),some (.int ((t.getD a []).getD b 0))],?_,_,_,rfl⟩;refine(kX rfl).trans ?_;refine(zP ((ye (A1:=[]) ?_).trans rfl)).trans rfl;have r:zi qR (zi jd qd qp) (zi jd zt qg) [some (zl t),some (.int a),some (zy (t.getD a [])),some (.int b),some (.int ((t.getD a []).getD b 0))] []=.ok (.bl false) []:=by
      refine(zS ((zS (zm (i:=4) rfl) (qW (w:=.int 0))).trans (Yo _ _ _)) ((zS (zm (i:=1) rfl) (zm (i:=3) rfl)).trans (Yo _ _ _))).trans ((fY _ _ _).trans ?_);have hd:(t.getD a []).getD b 0=0↔a=b:=h.dg a b f c
      have:decide ((t.getD a []).getD b 0=0)=decide ((a:Int)=(b:Int)):=by
       by_cases q:a=b
       ·rw[aq (hd.mpr q),aq (by omega)]
       ·rw[ax (λz=>q (hd.mp z)),ax (by omega)]
      rw[this];simp
     have E:zi qR (zi zM (zi zM zj qg) zt) qd [some (zl t),some (.int a),some (zy (t.getD a [])),some (.int b),some (.int ((t.getD a []).getD b 0))] []=.ok (.bl false) []:=by
      have p:=h.sq _ (jC c);refine(zS ((zS ((zS (zm (i:=0) rfl) (zm (i:=3) rfl)).trans (J6 c)) (zm (i:=1) rfl)).trans (VI (by omega))) (zm (i:=4) rfl)).trans ((UX _ _ _).trans ?_)
      have s:(t.getD b []).getD a 0=(t.getD a []).getD b 0:=(h.sy a b f c).symm;rw[s,aq rfl]
      rfl
     exact(w5 r).trans E) t.length 0 [some (zl t),some (.int a),some (zy (t.getD a [])),y3,y] (by omega) ⟨_,_,rfl⟩
   refine⟨[some (zl t),some (.int a),some (zy (t.getD a [])),n,Z],?_,_,_,_,_,rfl⟩;refine(kX rfl).trans ?_;rw[o]at E;have hlen:((t.getD a []).map W.int).length=t.length:=by rw[ag,l]
   refine(zP ((kU (QS (zm (i:=2) rfl))).trans ?_)).trans rfl;show ym (yu (zy (t.getD a [])) ((t.getD a []).map W.int).length) _ ((t.getD a []).map W.int).length 0 _ _=_;rw[hlen]at E ⊢;exact E) t.length 0 [some (zl t),none,none,none,none] (by omega) ⟨_,_,_,_,rfl⟩
 refine(zP (ρ1:=d) (A1:=[]) ((kU (QS (zm (i:=0) rfl))).trans ?_)).trans (qN rfl);show ym (yu (zl t) (t.map zy).length) _ (t.map zy).length 0 _ _=_;have hlen:(t.map zy).length=t.length:=ag ..;rw[hlen]at e ⊢;exact e
def AZ (h:zX t)(A:Hx):GX [zl t] A=.ok (.bl true) A:=by
 have m:=CF h;have c:t.flatten≠[]:=by
  intro e;have u:=h.n1;have b:=h.sq _ (jC (t:=t) (a:=0) (by omega))
  have:t.getD 0 []=[]:=by
   have:=List.flatten_eq_nil_iff.mp e _ (jC (t:=t) (a:=0) (by omega))
   exact this
  rw[this]at b;simp at b;omega
 obtain⟨v0,l,E⟩:=List.exists_cons_of_ne_nil c;refine Zc (A1:=[.lst (t.flatten.map W.int)]) (kO t) rfl (qX ?_);unfold U7;refine(zP (qV (yN (AU (zm rfl) (by unfold zQ;omega))))).trans (qN (jh ?_))
 generalize o:[O.lst (t.flatten.map W.int)]=B;have s:zW (.ref 0) B=some (t.flatten.map W.int):=by rw[<- o];rfl
 have em:mQ yw (qo zt) [some (zl t),some (.ref 0)] B=.ok (.int (yb l v0)) B:=by
  rw[j3 (yY (w:=.ref 0) (A1:=B) (zm rfl) s)];unfold yw;rw[Zy,E]
 have H:yb l v0∈t.flatten:=by
  rw[E];rcases Vc l v0 with e|e
  ·rw[e];exact ay ..
  ·exact aw _ e
 have f:0<=yb l v0/\yb l v0<8:=by
  obtain⟨r,b,v⟩:=List.mem_flatten.mp H
  have:=h.lo r b _ v
  have:=h.n8
  omega
 generalize yb l v0=M at em H f;obtain⟨K,rfl⟩:=bg f.1;have q:=wN (cap:=[1]) (me:=zi yn zj zt) (ρ:=[some (zl t),some (.ref 0)]) (A:=B) (N:=K) (j:=wB 0 K) (item:=λi=>.int (0+i)) (g:=λ_=>.bl true)
  ((YO em (by unfold je;simp;omega)).trans (by rw[aG])) rfl (by unfold zQ;omega) (λi d=>Qm d) (Qg (by omega))
  (λi d=>by
   refine(zS (zm (i:=0) (w:=.int (0+i)) rfl) (zm (i:=1) (w:=.ref 0) rfl)).trans ?_;show Zn false _ _ _=_;unfold Zn;rw[s];dsimp only;have hf:(yo (.int (0+(i:Int)))&&(t.flatten.map W.int).all yo)=true:=by
    have:(t.flatten.map W.int).all yo=true:=cB.mpr λw hw=>by obtain⟨x,_,rfl⟩:=cz.mp hw;rfl
    rw[this];rfl
   rw[ah hf];have n:Zu (.int (0+(i:Int))) (t.flatten.map W.int)=true:=by
    unfold Zu;refine List.any_eq_true.mpr ⟨.int i,cz.mpr ⟨(i:Int),h.fu i ⟨_,H,by omega⟩,rfl⟩,?_⟩
    show((i:Int)==0+(i:Int))=true;rw[Int.zero_add];exact bG _
   rw[n]
   rfl)
 refine(j3 q).trans ?_;exact QX (p:=λ_=>true) λ_ _=>rfl
def Ar (h:zX t)(A:Hx):JF [zl t] A=.ok (.bl true) A:=by
 have n1:=h.n1;have n8:=h.n8;unfold JF XO;refine qX ?_;unfold RP;have e:∀ρ:En,mQ qQ (qo (qE 0)) (some (zl t)::ρ) A=.ok (.int t.length) A:=λρ=>by
  rw[j3 (yY (w:=zl t) (A1:=A) (zm rfl) rfl)];unfold qQ;rw[ag]
 refine(zP (ρ1:=[some (zl t),none]) (A1:=A) ((ye (A1:=A) ?_).trans rfl)).trans ?_
 ·refine(w5 (A1:=A) rfl).trans ?_
  refine wQ (k:=true) ?_;show y9 gQ gQ (qi (.int 1)) (mQ qQ (qo (qE 0))) (qi (.int 8)) [some (zl t),none] A=_;unfold y9;rw[qW,zJ,e,zJ];show R.bind (R.ok (W.bl (decide ((1:Int)<=t.length))) A) _=_;rw[aq (by omega),zJ]
  dsimp only;rw[qW,zJ];show R.ok (W.bl (decide ((t.length:Int)<=8))) A=_;rw[aq (by omega)]
 refine(zP (qV (e _))).trans ?_;have E:=QW (cap:=[1]) (A:=A) (ρ:=[some (zl t),some (.int t.length)]) (ws:=t.map zy) (me:=zC Yt (zh (qE 0) (zh (qE 1) (zh (qE 1) zo)))) (g:=λ_=>.bl true) (zm (i:=0) rfl) (by rw[ag];unfold zQ;omega) (λw hw=>by
  obtain⟨r,H,rfl⟩:=cz.mp hw;have l:=h.sq r H;refine(qa (ws:=[zy r,.int t.length,.int t.length]) (A1:=A) rfl).trans ?_;rw[<- l];exact Bj (by omega) (λv a=>by have:=h.lo r H v a;omega) A)
 refine(zP (ρ1:=[some (zl t),some (.int t.length)]) (A1:=A) ((ye (A1:=A) (wQ (k:=true) ((j3 E).trans (QX (p:=λ_=>true) λ_ _=>rfl)))).trans rfl)).trans (qN (jh ?_));refine(gI (A1:=A) ((qa (ws:=[zl t]) (A1:=A) rfl).trans (gy h A))).trans ?_;exact(qa (ws:=[zl t]) (A1:=A) rfl).trans (AZ h A)
end G
namespace Mi
open PySem L2
theorem JD:∀(l m:b3),PyData.eqvAll (l.map PyData.int) (m.map PyData.int)=decide (l=m)
 |[],[]=>by simp[PyData.eqvAll]|[],_::_=>by simp[PyData.eqvAll]|_::_,[]=>by simp[PyData.eqvAll]|a::l,b::m=>by
  simp only[aF,PyData.eqvAll,JD l m,PyData.eqv];rw[Bool.eq_iff_iff];simp
theorem Pe:∀l:b3,yh (qc A n) (l.map W.int)=some (l.map PyData.int)
 |[]=>rfl|i::l=>by
  have:qc A n (.int i)=some (.int i):=by cases n<;>rfl
  show(match qc A n (.int i),yh (qc A n) (l.map W.int) with|some d,some ds=>some (d::ds)|_,_=>none)=_
  rw[this,Pe l]
  rfl
def VO {r:Nat}(h:A[r]? =some (.lst (l.map W.int))):qc A 8 (.ref r)=some (.list (l.map PyData.int)):=by
 show(match zW (.ref r) A with|some ws=>(yh (qc A 7) ws).map PyData.list|none=>none)=_
 have:zW (.ref r) A=some (l.map W.int):=by unfold zW;dsimp only;rw[h]
 rw[this];dsimp only;rw[Pe]
 rfl
structure Kn (n:Nat)(A B:Hx):Prop where
 kp:Kp n A B
 st:G.jA n B
def _root_.G.jA.lt (h:G.jA n A):n<A.length:=by
 obtain⟨c,b,e,_⟩:=h;exact ZC e
def _root_.G.jA.ext {B:Hx}(h:G.jA n A)(x:Ext A B):G.jA n B:=by
 obtain⟨c,b,e,r⟩:=h;exact⟨c,b,x.at e,r⟩
def _root_.G.jA.put {k:Nat}(h:G.jA n A)(H:k≠n):G.jA n (A.set k o):=by
 obtain⟨c,b,e,r⟩:=h;exact⟨c,b,by rw[aP H];exact e,r⟩
theorem Kn.trans {B C:Hx}(a:Kn n A B)(b:Kn n B C):Kn n A C:=⟨a.kp.trans b.kp,b.st⟩
theorem Kn.ext {B:Hx}(s:G.jA n A)(x:Ext A B):Kn n A B:=⟨Kp.ext x,s.ext x⟩
end Mi
namespace G
open PySem L2 Mi
def NN (h:jA n A){m:Int}(c:0<m)(H:m<1000000000000000):∃(r:Nat) (B:Hx),yI [.ref n,.int m] A=.ok (.int r) B/\(r:Int)<m/\Kn n A B/\B.length=A.length:=by
 obtain⟨r,o,e,a,b,s⟩:=Nv h c H;exact⟨r.toNat,A.set n o,by rw[e,Int.toNat_of_nonneg a],by omega,⟨Kp.set,s⟩,length_set ..⟩
def Ao {m:Int}(h:jA n A)(h0:ρ[0]? =some (some (.ref n)))(hm:me ρ A=.ok (.int m) A)(b:0<m)(H:m<1000000000000000):∃(r:Nat) (B:Hx),zC yI (zh zj (zh me zo)) ρ A=.ok (.int r) B/\(r:Int)<m/\Kn n A B/\B.length=A.length:=by
 obtain⟨r,B,e,a⟩:=NN h b H;exact⟨r,B,(qa (zG (zm h0) (zG hm zV))).trans e,a⟩
section
variable {B:Hx}
def Ad (h:i<t.length):(B++(t.map λr=>O.lst (r.map W.int))++[O.lst ((List.range t.length).map λi=>W.ref (B.length+i))])[B.length+i]? =some (.lst ((t.getD i []).map W.int)):=by
 rw[ai (by simp;omega),ar (by omega),show B.length+i-B.length=i by omega,av,ab,aa h]
 rfl
def DX:(B++(t.map λr=>O.lst (r.map W.int))++[O.lst ((List.range t.length).map λi=>W.ref (B.length+i))])[B.length+t.length]? =some (.lst ((List.range t.length).map λi=>W.ref (B.length+i))):=by
 have:B.length+t.length=(B++(t.map λr=>O.lst (r.map W.int))).length:=by simp
 rw[this,qI]
end
def KD {r s:Nat}{m:b3}(h:A[r]? =some (.lst (l.map W.int)))(H:A[s]? =some (.lst (m.map W.int))):qR (.ref r) (.ref s) A=.ok (.bl (!decide (l=m))) A:=by
 show kD true _ _ A=_;unfold kD;rw[VO h,VO H];dsimp only;rw[PyData.eqv,JD]
 rfl
section
variable {p f:Nat}
def Cc {x:Option W}(Y:A.length<=p)(hf:A.length<=f)(hn:n<A.length)(h:p≠f):∀(k fu:Nat)(l fd:b3)(B:Hx),l.length=k->k<fu->fd.length+l.length<=100->Kn n A B->B[p]? =some (.lst (l.map W.int))->B[f]? =some (.lst (fd.map W.int))->
  ∃(r:Hx) (b:b3),ZU (zi qR zI (qF zo)) (zq (yj (yK kI qg (yK Zd zI (zC yI (zh zj (zh (mQ qQ (qo zI)) zo)))))) zx) fu [some (.ref n),x,some (.ref p),some (.ref f)] B=.ok (.nx [some (.ref n),x,some (.ref p),some (.ref f)]) r/\Kn n A r/\r[f]? =some (.lst (b.map W.int))/\b.Perm (fd++l):=by
 intro k
 induction k with
 |zero=>
  intro fu l fd B H D _ d t J;obtain⟨fu,rfl⟩:∃M,fu=M+1:=⟨fu-1,by omega⟩
  have:l=[]:=List.length_eq_zero_iff.mp H
  subst this;refine⟨B++[.lst []],fd,?_,d.trans (Kn.ext d.st Ext.one),qZ J,by simp⟩
  unfold ZU;have v:zi qR zI (qF zo) [some (.ref n),x,some (.ref p),some (.ref f)] B=.ok (.bl false) (B++[.lst []]):=(zS (zm (i:=2) rfl) (kq zV)).trans (KD (l:=[]) (m:=[]) (qZ t) qI);rw[v,zJ]
 |succ k U=>
  intro fu l fd B H D Z d t J;obtain⟨fu,rfl⟩:∃M,fu=M+1:=⟨fu-1,by omega⟩
  have v:zi qR zI (qF zo) [some (.ref n),x,some (.ref p),some (.ref f)] B=.ok (.bl true) (B++[.lst []]):=by
   refine(zS (zm (i:=2) rfl) (kq zV)).trans ((KD (m:=[]) (qZ t) qI).trans ?_);have C:l≠[]:=λe=>by rw[e]at H;cases H
   rw[ax C]
   rfl
  have K:=d.trans (Kn.ext d.st (Ext.one (o:=.lst [])));have g1:=qZ (u:=.lst []) t;have g2:=qZ (u:=.lst []) J;generalize B++[O.lst []]=N at v K g1 g2;have E:mQ qQ (qo zI) [some (.ref n),x,some (.ref p),some (.ref f)] N=.ok (.int (l.length:Int)) N:=by
   rw[j3 (yY (w:=.ref p) (A1:=N) (ws:=l.map W.int) (zm rfl) (by unfold zW;dsimp only;rw[g1]))]
   unfold qQ;rw[ag]
  obtain⟨q,S,e1,X,s,_⟩:=Ao (ρ:=[some (.ref n),x,some (.ref p),some (.ref f)]) K.st rfl E (by omega) (by omega)
  have z:q<l.length:=by omega
  have j:=s.kp.get g1 (by omega)
  have L:=s.kp.get g2 (by omega)
  have hw:(l.map W.int)[q]? =some (.int l[q]):=by rw[av,aa z];rfl
  have Q:=(Wz (g:=Zd) (a:=qE 2) (zm rfl) g1 e1).trans (Dc j hw (by omega))
  rw[R7]at Q;have c:(S.set p (.lst ((l.eraseIdx q).map W.int)))[f]? =some (.lst (fd.map W.int)):=by rw[aP h];exact L
  have P:=(Wz (g:=kI) (a:=qE 3) (zm rfl) g2 Q).trans (RD c (by rw[ag];omega))
  have I:fd.map W.int++[.int l[q]]=(fd++[l[q]]).map W.int:=by rw[aQ];rfl
  rw[I]at P;have hlen:(l.eraseIdx q).length=k:=by rw[List.length_eraseIdx_of_lt z];omega
  have y:Kn n A ((S.set p (.lst ((l.eraseIdx q).map W.int))).set f (.lst ((fd++[l[q]]).map W.int))):=⟨((K.trans s).kp.put Y).put hf,((s.st).put (by omega)).put (by omega)⟩
  obtain⟨r,b,e4,s4,a4,T⟩:=U fu (l.eraseIdx q) (fd++[l[q]]) _ hlen (by omega) (by rw[aB,bj];omega) y
   (by rw[aP (Ne.symm h),aT (ZC j)]) (by rw[aT (ZC c)])
  refine⟨r,b,?_,s4,a4,T.trans ?_⟩
  ·unfold ZU
   rw[v,zJ];dsimp only;have eb:=(zP (m2:=zx) (wy P)).trans jo;rw[eb,zJ];exact e4
  ·rw[aU]
   exact List.Perm.append_left fd (RU (aa z)).symm
def Oz {q:Nat}(s:jA n A)(h:A[q]? =some (.lst (l.map W.int)))(H:l.length<=100):∃(r:Nat) (B:Hx) (fd:b3),Jw [.ref n,.ref q] A=.ok (.ref r) B/\B[r]? =some (.lst (fd.map W.int))/\fd.Perm l/\Kn n A B/\A.length<=r:=by
 unfold Jw G9;unfold TN;have a:qm (qo zt) [some (.ref n),some (.ref q),none,none] A=.ok (.ref A.length) (A++[.lst (l.map W.int)]):=yN (yY (w:=.ref q) (zm rfl) (by unfold zW;dsimp only;rw[h]))
 have x0:Ext A (A++[.lst (l.map W.int)]++[.lst []]):=Ext.one.app;have hlen:(A++[O.lst (l.map W.int)]).length=A.length+1:=by simp
 have a2:(A++[.lst (l.map W.int)]++[.lst []])[A.length+1]? =some (.lst (([]:b3).map W.int)):=by rw[<- hlen];exact qI
 obtain⟨B,fd,E,K,e,P⟩:=Cc (A:=A) (p:=A.length) (f:=A.length+1) (x:=some (.ref q)) (ao _) (by omega) s.lt (by omega) l.length 1000 l [] _ rfl (by omega) (by simp;omega) (Kn.ext s x0) (qZ qI) a2
 refine⟨A.length+1,B,fd,qX ?_,e,by simpa using P,K,by omega⟩
 refine(zP ((qV a).trans rfl)).trans ((zP (ρ1:=[some (.ref n),some (.ref q),some (.ref A.length),some (.ref (A.length+1))]) (A1:=A++[.lst (l.map W.int)]++[.lst []]) ?_).trans ((zP (m1:=V3 1000 _ _) E).trans (qN (jh (zm rfl)))));refine(qV (kq zV)).trans ?_;rw[hlen]
 rfl
end
noncomputable def dist (t:b0):b7:=(List.range 8).filter λi=>decide ((i:Int)∈t.flatten)
def KO (t:b0)(v:Int):Int:=((dist t).idxOf v.toNat:Nat)
def yA (t:b0):b0:=t.map λr=>r.map (KO t)
def DS:i∈dist t↔i<8/\(i:Int)∈t.flatten:=by
 unfold dist;rw[bD,bA,af]
theorem RX:∀{l:b3},(∀v∈l,0<=v/\v<8)->Qn l=some (l.map Int.toNat)
 |[],_=>rfl|v::l,h=>by
  unfold Qn;rw[ah (h v (ay ..)),RX λx H=>h x (aw _ H)]
  rfl
theorem Pl:∀{kws:List (Nat×List W)},(∀p∈kws,A[p.1]? =some (.lst p.2))->wW A (kws.map λ(p:Nat×List W)=>W.ref p.1)=some (kws.map (·.2))
 |[],_=>rfl|p::kws,h=>by
  show(match A[p.1]? with|some (.lst ws)=>(wW A (kws.map λ(p:Nat×List W)=>W.ref p.1)).map (ws::·)|_=>none)=_
  rw[h p (ay ..)];dsimp only;rw[Pl λx H=>h x (aw _ H)]
  rfl
theorem O6 (v:Nat):∀{l:b7},v∈l->Zl (λz=>PyData.eqv z (.int (v:Int))) (l.map λ(i:Nat)=>PyData.int (i:Int))=some (l.idxOf v)
 |[],h=>by cases h|a::l,h=>by
  rw[aF,Zl,List.idxOf_cons]
  have:PyData.eqv (.int (a:Int)) (.int (v:Int))=(a==v):=by
   rw[PyData.eqv,Bool.eq_iff_iff];simp;omega
  rw[this]
  by_cases q:a=v
  ·subst q
   simp
  ·have Q:(a==v)=false:=by simp[q]
   rw[Q,aj (by simp)]
   rw[O6 v ((cy.mp h).resolve_left (Ne.symm q))]
   rfl
def LL (t:b0)(r:Nat)(B:Hx):Prop:=∃ks:b7,B[r]? =some (.lst (ks.map W.ref))/\ks.length=t.length/\∀i,i<t.length->B[ks.getD i 0]? =some (.lst ((t.getD i []).map W.int))
def Wt {k:Nat}(h:m ρ A=.ok (.ref k) A)(a:A[k]? =some (.lst ws))(l:ws.length<=zQ){g:W->W}(he:∀w∈ws,me (some w::cap.map λi=>(ρ[i]?).join) A=.ok (g w) A):
  zH 1 cap (zN m) (zD 0) zT (zF me) ρ A=.ok (ws.map g) A:=by
 have e:=wN (cap:=cap) (me:=me) (ρ:=ρ) (A:=A) (N:=ws.length) (item:=λi=>ws.getD i .non) (g:=λi=>g (ws.getD i .non)) (wU h a) rfl l
  (λi H=>(Qk a).trans (by rw[aa H,ab,aa H];rfl))
  ((Qk a).trans (by rw[aD (ao _)]))
  (λi H=>by
   have:ws.getD i .non=ws[i]:=by rw[ab,aa H];rfl
   rw[this];exact he _ (aS H))
 rw[e]
 congr 1
 apply bL
 ·simp
 ·intro i c b
  have H:i<ws.length:=by simpa using b
  simp[ab,aa H]
noncomputable def La (f:Int->Int):W->W
 |.int v=>.int (f v)|w=>w
def Bx (f:Int->Int)(l:b3):(l.map W.int).map (La f)=(l.map f).map W.int:=by
 rw[aI,aI];rfl
section
variable {r:Nat}
def Df {B:Hx}(l:t.length<=8)(L:LL t r B)(h0:ρ[i]? =some (some (.ref r))):qm (zH 1 [] (zN (qE i)) (zD 0) zT (zF (qm (qo zj)))) ρ B=
  .ok (.ref (B.length+t.length)) (B++(t.map λr=>O.lst (r.map W.int))++[O.lst ((List.range t.length).map λi=>W.ref (B.length+i))]):=by
 obtain⟨ks,E,d,g⟩:=L;obtain⟨b,f,m,e,⟨z,g1⟩,g2,g3⟩:=YA (nl:=1) (cap:=[]) (tw:=zD 0) (ifs:=qi (.bl true)) (em:=zF (qm (qo zj))) (ρ:=ρ) (A:=B) (N:=t.length)
  (I:=λp b a C=>(∃z,b=[z])/\C=B++((t.take p).map λr=>O.lst (r.map W.int))/\a=(List.range p).map λi=>W.ref (B.length+i)) (wU (zm h0) E) (by simp[d])
  (λp b a C H ⟨⟨z,f1⟩,f2,j⟩=>by
   subst f1 f2 j;have x:Ext B (B++((t.take p).map λr=>O.lst (r.map W.int))):=⟨_,rfl⟩;have h:=x.at (g p H);have c:t.getD p []=t[p]:=by rw[ab,aa H];rfl
   rw[c]at h;refine⟨.ref (ks.getD p 0),[some (.ref (ks.getD p 0))],?_,rfl,.inl ⟨_,_,_,_,rfl,JL (yN (yY (w:=.ref (ks.getD p 0)) (ws:=t[p].map W.int) (zm rfl) (by unfold zW;dsimp only;rw[h]))) ?_,⟨_,rfl⟩,?_,?_⟩⟩
   ·refine(Qk (x.at E)).trans ?_
    rw[av,ab,aa (by omega)];rfl
   ·simp;unfold zQ;omega
   ·rw[take_succ H,aQ,aU];rfl
   ·rw[bf,aQ,aB,ag,bY,Nat.min_eq_left (bJ H)];rfl)
  (λb a C ⟨_,f2,_⟩=>by
   subst f2;exact(Qk (Ext.at ⟨_,rfl⟩ E)).trans (by rw[aD (by simp[d])])) ⟨⟨none,rfl⟩,by simp,by simp⟩
 rw[yN e,g2,g3,take_length];simp
def LL.mono {B:Hx}(x:Ext A B)(h:LL t r A):LL t r B:=by
 obtain⟨ks,e,a,H⟩:=h;exact⟨ks,x.at e,a,λi b=>x.at (H i b)⟩
def BO (Z:1<=t.length)(J:t.length<=8)(E:Sq t)(s:∀v∈t.flatten,0<=v/\v<8)(L:LL t r A):∃B,K7 [.ref r] A=.ok (zl (yA t)) B/\Ext A B:=by
 have Y:t.flatten.length<=64:=by
  have:∀l:b0,(∀r∈l,r.length<=8)->l.flatten.length<=8 * l.length:=by
   intro l
   induction l with
   |nil=>intro _;simp|cons r l T=>
    intro e;have Z:=e r (ay ..);have h2:=T λS x=>e S (aw _ x);rw[aZ,aB,aN];omega
  have:=this t λr e=>by rw[E r e];exact J
  omega
 unfold K7 Xy;unfold SH;have Q:=Df (ρ:=[some (.ref r),none]) (i:=0) J L rfl;have x1:Ext A (A++(t.map λr=>O.lst (r.map W.int))++[O.lst ((List.range t.length).map λi=>W.ref (A.length+i))]):=⟨(t.map λr=>O.lst (r.map W.int))++[O.lst ((List.range t.length).map λi=>W.ref (A.length+i))],by rw[aU]⟩
 have a:∀i,i<t.length->_:=λi D=>Ad (B:=A) (t:=t) (i:=i) D;have H:=DX (B:=A) (t:=t);generalize A++(t.map λr=>O.lst (r.map W.int))++[O.lst ((List.range t.length).map λi=>W.ref (A.length+i))]=b at Q x1 a H;have P:zi ZO (qm (zH 1 [] (zN zj) (zD 0) zT (zF (qm (qo zj))))) (qF zo) [some (.ref r),none] A=.ok (.ref (b.length+1)) (b++[.lst []]++[.lst (t.flatten.map W.int)]):=by
  refine(zS Q (kq zV)).trans ?_;have o:=Pl (A:=b++[.lst []]) (kws:=(List.range t.length).map λi=>(A.length+i,(t.getD i []).map W.int)) (λp U=>by
   obtain⟨i,D,rfl⟩:=cz.mp U;exact qZ (a i (cx.mp D)))
  rw[aI,aI]at o;have C:((λp:Nat×List W=>W.ref p.1) ∘ λi=>(A.length+i,(t.getD i []).map W.int))=λi=>W.ref (A.length+i):=rfl;have y:((λp:Nat×List W=>p.2) ∘ λi=>(A.length+i,(t.getD i []).map W.int))=λi=>(t.getD i []).map W.int:=rfl;rw[C,y,<- QO t [] λr=>r.map W.int]at o;have hf:(t.map λr=>r.map W.int).flatten=t.flatten.map W.int:=by rw[List.map_flatten]
  unfold ZO;dsimp only;rw[qZ H,qI];dsimp only;rw[o];dsimp only;rw[ah ⟨λz=>(by have:=congrArg List.length z;rw[ag,aE]at this;exact absurd this (by rw[bE];omega)),by rw[hf,ag];unfold zQ;omega⟩,hf]
  simp
 have x2:Ext A (b++[.lst []]++[.lst (t.flatten.map W.int)]):=x1.app.app;have f:(b++[.lst []]++[.lst (t.flatten.map W.int)])[b.length+1]? =some (.lst (t.flatten.map W.int)):=by
  have:b.length+1=(b++[O.lst []]).length:=by simp
  rw[this,qI]
 generalize b++[.lst []]++[.lst (t.flatten.map W.int)]=c at P x2 f;have M:Wy (zi ZO (qm (zH 1 [] (zN zj) (zD 0) zT (zF (qm (qo zj))))) (qF zo)) [some (.ref r),none] A=.ok (.ref c.length) (c++[.lst (((dist t).map λ(i:Nat)=>(i:Int)).map W.int)]):=by
  unfold Wy;rw[P,zJ];unfold X8;dsimp only;rw[f];dsimp only;rw[Zy];dsimp only;rw[RX s];dsimp only
  have:((List.range 8).filter λi=>decide (i∈t.flatten.map Int.toNat))=dist t:=by
   unfold dist
   apply filter_congr
   intro i _;rw[decide_eq_decide]
   constructor
   ·intro z
    obtain⟨v,h,rfl⟩:=cz.mp z;rw[Int.toNat_of_nonneg (s v h).1];exact h
   ·intro z
    exact cz.mpr ⟨_,z,rfl⟩
  rw[this,aI]
  rfl
 have x3:=x2.app (l:=[.lst (((dist t).map λ(i:Nat)=>(i:Int)).map W.int)]);have d:(c++[.lst (((dist t).map λ(i:Nat)=>(i:Int)).map W.int)])[c.length]? =some (.lst (((dist t).map λ(i:Nat)=>(i:Int)).map W.int)):=qI;generalize c++[.lst (((dist t).map λ(i:Nat)=>(i:Int)).map W.int)]=n at M x3 d;obtain⟨ks,K,I,e⟩:=LL.mono x3 L;refine⟨n,qX ((zP ((qV M).trans rfl)).trans (qN (jh ?_))),x3⟩;have idx:∀v,v∈t.flatten->Zg (.ref c.length) (.int v) n=.ok (.int (KO t v)) n:=λv h=>by
  obtain⟨u,rfl⟩:=bg (s v h).1;have hm:u∈dist t:=DS.mpr ⟨by have:=s _ h;omega,h⟩
  unfold Zg;rw[VO d];show(match Zl (λz=>PyData.eqv z (.int (u:Int))) (((dist t).map λ(i:Nat)=>(i:Int)).map PyData.int) with|some j=>if j<1000000 then R.ok (W.int (j:Int)) n else .bad|none=>.bad)=_
  have:((dist t).map λ(i:Nat)=>(i:Int)).map PyData.int=(dist t).map λ(i:Nat)=>PyData.int (i:Int):=by rw[aI];rfl
  rw[this,O6 u hm];dsimp only;have o:(dist t).idxOf u<(dist t).length:=List.idxOf_lt_length_of_mem hm;have X:(dist t).length<=8:=by unfold dist;exact bw (bo _ _) (by simp)
  rw[ah (by omega)]
  rfl
 have ec:=wN (cap:=[1]) (me:=mQ jK (zH 1 [1] (zN zj) (zD 0) zT (zF (yK Zg zt zj)))) (ρ:=[some (.ref r),some (.ref c.length)]) (A:=n) (N:=t.length) (item:=λi=>.ref (ks.getD i 0)) (g:=λi=>zy ((t.getD i []).map (KO t))) (wU (zm (i:=0) rfl) K) (by simp[I]) (by unfold zQ;omega)
  (λj q=>(Qk K).trans (by rw[av,ab,aa (by omega)];rfl)) ((Qk K).trans (by rw[aD (by simp[I])]))
  (λj q=>by
   have:=Wt (cap:=[1]) (m:=qE 0) (me:=yK Zg zt zj) (ρ:=[some (.ref (ks.getD j 0)),some (.ref c.length)]) (g:=La (KO t)) (zm rfl) (e j q) (by rw[ag,E _ (jC q)];unfold zQ;omega) (λw hw=>by
    obtain⟨v,h,rfl⟩:=cz.mp hw;exact(Wz (g:=Zg) (zm rfl) d (zm (i:=0) rfl)).trans (idx v (List.mem_flatten.mpr ⟨_,jC q,h⟩)))
   rw[Bx]at this;exact gJ this)
 refine(gJ ec).trans ?_;unfold zl yA;rw[aI,QO t [] (zy ∘ λr=>r.map (KO t))]
 rfl
end
noncomputable def jZ:Nat->List (b3)
 |0=>[[0,1,2,3,4,3,2,1],[1,0,1,2,3,4,3,2],[2,1,0,1,2,3,4,3],[3,2,1,0,1,2,3,4],[4,3,2,1,0,1,2,3],[3,4,3,2,1,0,1,2],[2,3,4,3,2,1,0,1],[1,2,3,4,3,2,1,0]]|1=>[[0,1,2,3,3,2,1],[1,0,1,2,3,3,2],[2,1,0,1,2,3,3],[3,2,1,0,1,2,3],[3,3,2,1,0,1,2],[2,3,3,2,1,0,1],[1,2,3,3,2,1,0]]|2=>[[0,1,2,3,2,1],[1,0,1,2,3,2],[2,1,0,1,2,3],[3,2,1,0,1,2],[2,3,2,1,0,1],[1,2,3,2,1,0]]|3=>[[0,1,2,2,1],[1,0,1,2,2],[2,1,0,1,2],[2,2,1,0,1],[1,2,2,1,0]]|4=>[[0,1,2,1],[1,0,1,2],[2,1,0,1],[1,2,1,0]]|5=>[[0,1,1],[1,0,1],[1,1,0]]|6=>[[0,1],[1,0]]|7=>[[0]]|8=>[[0,1,1,2,1,2,2,3],[1,0,2,1,2,1,3,2],[1,2,0,1,2,3,1,2],[2,1,1,0,3,2,2,1],[1,2,2,3,0,1,1,2],[2,1,3,2,1,0,2,1],[2,3,1,2,1,2,0,1],[3,2,2,1,2,1,1,0]]|9=>[[0,1,1,2],[1,0,2,1],[1,2,0,1],[2,1,1,0]]|10=>[[0,1],[1,0]]|11=>[[0,1,1,1,1,1,1,1],[1,0,1,1,1,1,1,1],[1,1,0,1,1,1,1,1],[1,1,1,0,1,1,1,1],[1,1,1,1,0,1,1,1],[1,1,1,1,1,0,1,1],[1,1,1,1,1,1,0,1],[1,1,1,1,1,1,1,0]]|12=>[[0,1,1,1,1,1,1],[1,0,1,1,1,1,1],[1,1,0,1,1,1,1],[1,1,1,0,1,1,1],[1,1,1,1,0,1,1],[1,1,1,1,1,0,1],[1,1,1,1,1,1,0]]|13=>[[0,1,1,1,1,1],[1,0,1,1,1,1],[1,1,0,1,1,1],[1,1,1,0,1,1],[1,1,1,1,0,1],[1,1,1,1,1,0]]|14=>[[0,1,1,1,1],[1,0,1,1,1],[1,1,0,1,1],[1,1,1,0,1],[1,1,1,1,0]]|15=>[[0,1,1,1],[1,0,1,1],[1,1,0,1],[1,1,1,0]]|16=>[[0,1,1],[1,0,1],[1,1,0]]|17=>[[0,1],[1,0]]|18=>[[0]]|19=>[[0,1,2,2,2,2,2,2],[1,0,2,2,2,2,2,2],[2,2,0,1,2,2,2,2],[2,2,1,0,2,2,2,2],[2,2,2,2,0,1,2,2],[2,2,2,2,1,0,2,2],[2,2,2,2,2,2,0,1],[2,2,2,2,2,2,1,0]]|20=>[[0,1,1,1,2,2,2,2],[1,0,1,1,2,2,2,2],[1,1,0,1,2,2,2,2],[1,1,1,0,2,2,2,2],[2,2,2,2,0,1,1,1],[2,2,2,2,1,0,1,1],[2,2,2,2,1,1,0,1],[2,2,2,2,1,1,1,0]]|21=>[[0,1,2,2,2,2],[1,0,2,2,2,2],[2,2,0,1,2,2],[2,2,1,0,2,2],[2,2,2,2,0,1],[2,2,2,2,1,0]]|22=>[[0,1,1,2,2,2],[1,0,1,2,2,2],[1,1,0,2,2,2],[2,2,2,0,1,1],[2,2,2,1,0,1],[2,2,2,1,1,0]]|23=>[[0,1,2,2],[1,0,2,2],[2,2,0,1],[2,2,1,0]]|24=>[[0,1,1,1,1,2],[1,0,1,1,2,1],[1,1,0,2,1,1],[1,1,2,0,1,1],[1,2,1,1,0,1],[2,1,1,1,1,0]]|25=>[[0,1,2,3],[1,0,3,2],[2,3,0,1],[3,2,1,0]]|26=>[[0,1,2,3,4,5,6,7],[1,0,3,2,5,4,7,6],[2,3,0,1,6,7,4,5],[3,2,1,0,7,6,5,4],[4,5,6,7,0,1,2,3],[5,4,7,6,1,0,3,2],[6,7,4,5,2,3,0,1],[7,6,5,4,3,2,1,0]]|27=>[[0,1],[1,0]]|28=>[[0,1,2,1,3,4,5,4],[1,0,1,2,4,3,4,5],[2,1,0,1,5,4,3,4],[1,2,1,0,4,5,4,3],[3,4,5,4,0,1,2,1],[4,3,4,5,1,0,1,2],[5,4,3,4,2,1,0,1],[4,5,4,3,1,2,1,0]]|29=>[[0,1,1,3,4,4],[1,0,1,4,3,4],[1,1,0,4,4,3],[3,4,4,0,1,1],[4,3,4,1,0,1],[4,4,3,1,1,0]]|30=>[[0,1,3,4],[1,0,4,3],[3,4,0,1],[4,3,1,0]]|31=>[[0,1,2,1,3,3,3,3],[1,0,1,2,3,3,3,3],[2,1,0,1,3,3,3,3],[1,2,1,0,3,3,3,3],[3,3,3,3,0,1,2,1],[3,3,3,3,1,0,1,2],[3,3,3,3,2,1,0,1],[3,3,3,3,1,2,1,0]]|32=>[[0,1,1,3,3,3],[1,0,1,3,3,3],[1,1,0,3,3,3],[3,3,3,0,1,1],[3,3,3,1,0,1],[3,3,3,1,1,0]]|33=>[[0,1,3,3],[1,0,3,3],[3,3,0,1],[3,3,1,0]]|_=>[]
def gS:((List.range 34).all λi=>UH (yA (jZ i))&&((jZ i).all λr=>r.length==(jZ i).length)&&((jZ i).flatten.all λv=>decide (0<=v)&&decide (v<8)))=true:=by decide +kernel
def Vy (h:i<34):zX (yA (jZ i))/\G.Sq (jZ i)/\∀v∈(jZ i).flatten,0<=v/\v<8:=by
 have:=cB.mp gS i (cx.mpr h)
 rw[ak,ak]at this;refine⟨AJ this.1.1,λr a=>?_,λv H=>?_⟩
 ·exact eq_of_beq (cB.mp this.1.2 r a)
 ·have:=cB.mp this.2 v H
  rw[ak,af,af]at this;exact this
theorem O1:∀{us:List W}{w:List (List W)},wW A us=some w->∃ks:b7,us=ks.map W.ref/\ks.length=w.length/\∀i,i<w.length->A[ks.getD i 0]? =some (.lst (w.getD i []))
 |[],w,e=>by
  cases e;exact⟨[],rfl,rfl,λi H=>by cases H⟩
 |.ref k::us,w,e=>by
  unfold wW at e;cases h:A[k]? with
  |none=>rw[h]at e;cases e|some o=>
   rw[h]at e;cases o with
   |lst ws=>
    dsimp only at e;cases a:wW A us with
    |none=>rw[a]at e;cases e|some v=>
     rw[a]at e;cases e;obtain⟨ks,rfl,l,b⟩:=O1 a;refine⟨k::ks,rfl,by simp[l],λi H=>?_⟩
     cases i with
     |zero=>exact h|succ i=>exact b i (by simpa using H)
   |_=>cases e
 |.non::_,_,e=>by cases e|.bl _::_,_,e=>by cases e|.int _::_,_,e=>by cases e|.str _::_,_,e=>by cases e|.tup _::_,_,e=>by cases e|.clo _ _ _::_,_,e=>by cases e|.xc _::_,_,e=>by cases e
def UJ (x:R Fl):Option (Option O×Option (List (List W))):=match x with
 |.ok (.rt (.ref r)) B=>some (B[0]?,match B[r]? with
  |some (.lst us)=>wW B us|_=>none)
 |_=>none
def Af {x:R Fl}(h:UJ x=some (some o,some (t.map λr=>r.map W.int))):∃r B,x=.ok (.rt (.ref r)) B/\B[0]? =some o/\LL t r B:=by
 unfold UJ at h
 split at h
 ·rename_i r B
  injection h with h
  injection h with d H
  cases a:B[r]? with
  |none=>rw[a]at H;cases H|some o'=>
   rw[a]at H;cases o' with
   |lst us=>
    dsimp only at H;obtain⟨ks,rfl,l,b⟩:=O1 H;rw[ag]at l b;refine⟨r,B,rfl,d,ks,a,l,λi c=>(b i c).trans ?_⟩;rw[ab,av,ab,aa c]
    rfl
   |_=>cases H
 ·cases h
def Plain (X:Ex)(ρ:En)(A:Hx):Prop:=∃i,i<34/\∃r B,X ρ A=.ok (.rt (.ref r)) B/\jA 0 B/\LL (jZ i) r B
section
variable {m1 m2:Ex}{ρ1:En}{L:Hx}{c:Ev}
def wZ (h:m1 ρ A=.ok (.nx ρ1) A1)(q:Plain m2 ρ1 A1):Plain (zq m1 m2) ρ A:=by
 unfold Plain;rw[zP h];exact q
def Yb (q:Plain m1 ρ A):Plain (zq m1 m2) ρ A:=by
 obtain⟨i,h,r,B,e,s,l⟩:=q;exact⟨i,h,r,B,qN e,s,l⟩
def Yk (h:c ρ A=.ok (.bl true) A1)(q:Plain m1 ρ A1):Plain (qS c m1 m2) ρ A:=by
 unfold Plain;rw[Jd h];exact q
def jS {m:Ex}(h:c ρ A=.ok (.bl false) A)(q:Plain m ρ A):Plain (zq (qS c m1 zx) m) ρ A:=wZ ((ye h).trans jo) q
def gV {l:Hx}(s:jA 0 (o::L)):jA 0 (o::l):=s
def js (i:Nat)(H:i<34)(s:jA 0 (o::L))(h:UJ (m1 ρ A)=some (some o,some ((jZ i).map λr=>r.map W.int))):Plain m1 ρ A:=by
 obtain⟨r,B,e,h0,l⟩:=Af h;obtain⟨c,b,a,q⟩:=s;have E:some o=some (O.lst [.int c,.bl b]):=a;exact⟨i,H,r,B,e,⟨c,b,by rw[h0];exact E,q⟩,l⟩
def take1 (s:jA 0 (o::L)){m:Int}(H:0<m)(h:m<1000000000000000):∃(r:Nat) (o':O),yI [.ref 0,.int m] (o::L)=.ok (.int (r:Int)) (o'::L)/\(r:Int)<m/\jA 0 (o'::L):=by
 obtain⟨r,o',e,a,b,S⟩:=Nv s H h;exact⟨r.toNat,o',by rw[e,Int.toNat_of_nonneg a];rfl,by omega,S⟩
def JH {a:Ea}{vs:List W}{k:Nat}(s:jA 0 (o::L))(h0:ρ[0]? =some (some (.ref 0)))(b:∀A,a ρ A=.ok vs A)(f:vs.length=k)(c:0<k)(K:k<1000):∃(j:Nat) (w:W) (o':O),zi zM (qF a) (zC yI (zh zj (zh (qi (.int (k:Int))) zo))) ρ (o::L)=.ok w (o'::(L++[.lst vs]))/\j<k/\vs[j]? =some w/\jA 0 (o'::(L++[.lst vs])):=by
 obtain⟨r,o',e,d,S⟩:=take1 (L:=L++[.lst vs]) (m:=(k:Int)) (gV s) (by omega) (by omega)
 have h:r<vs.length:=by omega
 refine⟨r,vs[r],o',?_,by omega,aa h,S⟩
 refine(zS (kq (b _)) ((qa (zG (zm h0) (zG qW zV))).trans e)).trans ?_;have H:(o'::(L++[O.lst vs]))[(o::L).length]? =some (.lst vs):=by
  show(L++[O.lst vs])[L.length]? =_;exact qI
 exact JR H (aa h)
end
def three {j:Nat}(h:j<3):j=0∨j=1∨j=2:=by omega
def UB {j:Nat}(h:j<5):j=0∨j=1∨j=2∨j=3∨j=4:=by omega
def Ud {j:Nat}(h:j<8):j=0∨j=1∨j=2∨j=3∨j=4∨j=5∨j=6∨j=7:=by omega
def Bp (s:jA 0 [o]):Plain (Xx yI) [some (.ref 0),none,none,none,none,none,none,none,none,none,none] [o]:=by
 unfold Xx;obtain⟨way,p,n,hw,s1⟩:=take1 s (m:=8) (by decide) (by decide)
 refine wZ (ρ1:=[some (.ref 0),some (.int (way:Int)),none,none,none,none,none,none,none,none,none]) (A1:=[p]) ((qV ((qa (ws:=[.ref 0,.int 8]) (A1:=[o]) rfl).trans n)).trans rfl) ?_;obtain⟨j,w,c,E,l,f,s2⟩:=JH (k:=8) (ρ:=[some (.ref 0),some (.int (way:Int)),none,none,none,none,none,none,none,none,none]) (a:=zh Zw (zh QH (zh GO (zh GP (zh wk (zh yH (zh jk (zh qh zo)))))))) (vs:=[.int 8,.int 7,.int 6,.int 5,.int 4,.int 3,.int 2,.int 1]) s1 rfl (λ_=>rfl) rfl (by decide) (by decide)
 refine wZ (ρ1:=[some (.ref 0),some (.int (way:Int)),some w,none,none,none,none,none,none,none,none]) (A1:=[c,.lst [.int 8,.int 7,.int 6,.int 5,.int 4,.int 3,.int 2,.int 1]]) ((qV E).trans rfl) ?_;have y:way<8:=by omega
 clear n E hw s s1;rcases Ud y with rfl|rfl|rfl|rfl|rfl|rfl|rfl|rfl
 ·refine Yb (Yk (A1:=[c,.lst [.int 8,.int 7,.int 6,.int 5,.int 4,.int 3,.int 2,.int 1]]) (by kernel_rfl) ?_)
  rcases Ud l with rfl|rfl|rfl|rfl|rfl|rfl|rfl|rfl<;>cases f
  ·exact js 0 (by decide) s2 (by kernel_rfl)
  ·exact js 1 (by decide) s2 (by kernel_rfl)
  ·exact js 2 (by decide) s2 (by kernel_rfl)
  ·exact js 3 (by decide) s2 (by kernel_rfl)
  ·exact js 4 (by decide) s2 (by kernel_rfl)
  ·exact js 5 (by decide) s2 (by kernel_rfl)
  ·exact js 6 (by decide) s2 (by kernel_rfl)
  ·exact js 7 (by decide) s2 (by kernel_rfl)
 ·refine jS (by kernel_rfl) (Yb (Yk (A1:=[c,.lst [.int 8,.int 7,.int 6,.int 5,.int 4,.int 3,.int 2,.int 1]]) (by kernel_rfl) ?_))
  obtain⟨J,g,i,e,b,H,s3⟩:=JH (k:=3) (ρ:=[some (.ref 0),some (.int ((1:Nat):Int)),some w,none,none,none,none,none,none,none,none]) (a:=zh Zw (zh wk (zh jk zo))) (vs:=[.int 8,.int 4,.int 2]) s2 rfl (λ_=>rfl) rfl (by decide) (by decide)
  refine wZ ((qV e).trans rfl) ?_;rcases three b with rfl|rfl|rfl<;>cases H
  ·exact js 8 (by decide) s3 (by kernel_rfl)
  ·exact js 9 (by decide) s3 (by kernel_rfl)
  ·exact js 10 (by decide) s3 (by kernel_rfl)
 ·refine jS (by kernel_rfl) (jS (by kernel_rfl) (Yb (Yk (A1:=[c,.lst [.int 8,.int 7,.int 6,.int 5,.int 4,.int 3,.int 2,.int 1]]) (by kernel_rfl) ?_)))
  rcases Ud l with rfl|rfl|rfl|rfl|rfl|rfl|rfl|rfl<;>cases f
  ·exact js 11 (by decide) s2 (by kernel_rfl)
  ·exact js 12 (by decide) s2 (by kernel_rfl)
  ·exact js 13 (by decide) s2 (by kernel_rfl)
  ·exact js 14 (by decide) s2 (by kernel_rfl)
  ·exact js 15 (by decide) s2 (by kernel_rfl)
  ·exact js 16 (by decide) s2 (by kernel_rfl)
  ·exact js 17 (by decide) s2 (by kernel_rfl)
  ·exact js 18 (by decide) s2 (by kernel_rfl)
 ·refine jS (by kernel_rfl) (jS (by kernel_rfl) (jS (by kernel_rfl) (Yb (Yk (A1:=[c,.lst [.int 8,.int 7,.int 6,.int 5,.int 4,.int 3,.int 2,.int 1]]) (by kernel_rfl) ?_))))
  obtain⟨J,g,i,e,b,H,s3⟩:=JH (k:=5) (ρ:=[some (.ref 0),some (.int ((3:Nat):Int)),some w,none,none,none,none,none,none,none,none]) (a:=zh (qM (zh jk (zh wk zo))) (zh (qM (zh wk (zh jk zo))) (zh (qM (zh jk (zh yH zo))) (zh (qM (zh yH (zh jk zo))) (zh (qM (zh jk (zh jk zo))) zo))))) (vs:=[.tup [.int 2,.int 4],.tup [.int 4,.int 2],.tup [.int 2,.int 3],.tup [.int 3,.int 2],.tup [.int 2,.int 2]]) s2 rfl (λ_=>rfl) rfl (by decide) (by decide)
  have asg:∀{m:Ev}{tw:Tg}{ρ d:En}{A A1:Hx}{w:W},m ρ A=.ok w A1->tw w ρ=some d->Zr m tw ρ A=.ok (.nx d) A1:=λh h'=>by
   unfold Zr;rw[h,zJ,h']
  rcases UB b with rfl|rfl|rfl|rfl|rfl<;>cases H
  ·exact wZ (asg e rfl) (js 19 (by decide) s3 (by kernel_rfl))
  ·exact wZ (asg e rfl) (js 20 (by decide) s3 (by kernel_rfl))
  ·exact wZ (asg e rfl) (js 21 (by decide) s3 (by kernel_rfl))
  ·exact wZ (asg e rfl) (js 22 (by decide) s3 (by kernel_rfl))
  ·exact wZ (asg e rfl) (js 23 (by decide) s3 (by kernel_rfl))
 ·exact jS (by kernel_rfl) (jS (by kernel_rfl) (jS (by kernel_rfl) (jS (by kernel_rfl) (Yb (Yk (A1:=[c,.lst [.int 8,.int 7,.int 6,.int 5,.int 4,.int 3,.int 2,.int 1]]) (by kernel_rfl) (js 24 (by decide) s2 (by kernel_rfl)))))))
 ·refine jS (by kernel_rfl) (jS (by kernel_rfl) (jS (by kernel_rfl) (jS (by kernel_rfl) (jS (by kernel_rfl) (Yb (Yk (A1:=[c,.lst [.int 8,.int 7,.int 6,.int 5,.int 4,.int 3,.int 2,.int 1]]) (by kernel_rfl) ?_))))))
  obtain⟨J,g,i,e,b,H,s3⟩:=JH (k:=3) (ρ:=[some (.ref 0),some (.int ((5:Nat):Int)),some w,none,none,none,none,none,none,none,none]) (a:=zh wk (zh Zw (zh jk zo))) (vs:=[.int 4,.int 8,.int 2]) s2 rfl (λ_=>rfl) rfl (by decide) (by decide)
  refine wZ ((qV e).trans rfl) ?_;rcases three b with rfl|rfl|rfl<;>cases H
  ·exact js 25 (by decide) s3 (by kernel_rfl)
  ·exact js 26 (by decide) s3 (by kernel_rfl)
  ·exact js 27 (by decide) s3 (by kernel_rfl)
 ·refine jS (by kernel_rfl) (jS (by kernel_rfl) (jS (by kernel_rfl) (jS (by kernel_rfl) (jS (by kernel_rfl) (jS (by kernel_rfl) ?_)))))
  obtain⟨J,g,i,e,b,H,s3⟩:=JH (k:=3) (ρ:=[some (.ref 0),some (.int ((6:Nat):Int)),some w,none,none,none,none,none,none,none,none]) (a:=zh wk (zh yH (zh jk zo))) (vs:=[.int 4,.int 3,.int 2]) s2 rfl (λ_=>rfl) rfl (by decide) (by decide)
  refine wZ ((qV e).trans rfl) ?_;rcases three b with rfl|rfl|rfl<;>cases H
  ·exact js 28 (by decide) s3 (by kernel_rfl)
  ·exact js 29 (by decide) s3 (by kernel_rfl)
  ·exact js 30 (by decide) s3 (by kernel_rfl)
 ·refine jS (by kernel_rfl) (jS (by kernel_rfl) (jS (by kernel_rfl) (jS (by kernel_rfl) (jS (by kernel_rfl) (jS (by kernel_rfl) ?_)))))
  obtain⟨J,g,i,e,b,H,s3⟩:=JH (k:=3) (ρ:=[some (.ref 0),some (.int ((7:Nat):Int)),some w,none,none,none,none,none,none,none,none]) (a:=zh wk (zh yH (zh jk zo))) (vs:=[.int 4,.int 3,.int 2]) s2 rfl (λ_=>rfl) rfl (by decide) (by decide)
  refine wZ ((qV e).trans rfl) ?_;rcases three b with rfl|rfl|rfl<;>cases H
  ·exact js 31 (by decide) s3 (by kernel_rfl)
  ·exact js 32 (by decide) s3 (by kernel_rfl)
  ·exact js 33 (by decide) s3 (by kernel_rfl)
def AQ (s:jA 0 [o]):∃i,i<34/\∃r B,K8 [.ref 0] [o]=.ok (.ref r) B/\jA 0 B/\LL (jZ i) r B:=by
 obtain⟨i,h,r,B,e,q⟩:=Bp s;refine⟨i,h,r,B,?_,q⟩;unfold K8 Xv;exact qX e
noncomputable def UL (g:Nat->W):W->W
 |.int v=>g v.toNat|w=>w
def Ng (g:Nat->W)(o:b7):((o.map λ(a:Nat)=>(a:Int)).map W.int).map (UL g)=o.map g:=by
 rw[aI,aI]
 apply aL
 intro a _;show g (Int.toNat (a:Int))=g a;rw[aG]
def PU {fd:b3}{M:Nat}{s:Int}(h:fd.Perm ((List.range M).map λ(k:Nat)=>s+(k:Int))):∃p:b7,fd=p.map (λ(k:Nat)=>s+(k:Int))/\p.Perm (List.range M):=by
 refine⟨fd.map λv=>(v-s).toNat,?_,?_⟩
 ·rw[aI]
  conv=>lhs;rw[<- map_id fd]
  apply aL
  intro v H;obtain⟨k,_,rfl⟩:=cz.mp (h.mem_iff.mp H);show s+(k:Int)=s+(((s+(k:Int)-s).toNat:Nat):Int);omega
 ·have:=h.map λv=>(v-s).toNat
  rw[aI]at this;have e:(List.range M).map ((λv:Int=>(v-s).toNat) ∘ λ(k:Nat)=>s+(k:Int))=List.range M:=by
   conv=>rhs;rw[<- map_id (List.range M)]
   apply aL
   intro k _;show(s+(k:Int)-s).toNat=k;omega
  rw[e]at this;exact this
section
variable {B:Hx}
def OW (h:zX t)(a:ρ[i]? =some (some (zl t))):mQ yw (zH 1 [] (zN (qE i)) (zD 0) zT (zF (mQ yw (qo zj)))) ρ A=.ok (.int (z9 t-1)) A:=by
 have n8:=h.n8;have e:=CZ (cap:=[]) (A:=A) (ρ:=ρ) (o:=t) (f:=zy) (m:=qE i) (me:=mQ yw (qo zj)) (G:=λr=>.int (kG r)) (zm a) (by unfold zQ;omega) (λr H=>(j3 (yY (w:=zy r) (ws:=r.map W.int) (A1:=A) (zm rfl) rfl)).trans (Oy (h.row_ne H)))
 have em:(t.map λr=>W.int (kG r))=(t.map kG).map W.int:=by rw[aI];rfl
 rw[em]at e;refine((j3 e).trans (Oy h.map_ne)).trans ?_
 have:z9 t-1=kG (t.map kG):=by unfold z9;omega
 rw[this]
def Pc {ma mb:Ev}{M:Nat}(H:ma ρ A=.ok (.int 1) A)(h:mb ρ A=.ok (.int (1+(M:Int))) A)(a:M<=100):QY ma mb ρ A=.ok (.ref A.length) (A++[.lst (((List.range M).map λ(k:Nat)=>1+(k:Int)).map W.int)]):=by
 unfold QY;rw[H,zJ,h,zJ];dsimp only;have e:(1+(M:Int)-1).toNat=M:=by omega
 rw[ah (by
  have s1:je 1=true:=by decide
  have s2:je (1+(M:Int))=true:=by unfold je;simp;omega
  rw[s1,s2,e,aq (by unfold zQ;omega)];rfl),e,aI]
 rfl
def Known (t:b0):Prop:=∃i p o,i<34/\p.Perm (List.range (z9 (yA (jZ i))-1).toNat)/\o.Perm (List.range (yA (jZ i)).length)/\t=wz (yA (jZ i)) p o
def AH (s:jA 0 [o]):∃t B,K3 [.ref 0] [o]=.ok (zl t) B/\jA 0 B/\zX t/\Known t:=by
 obtain⟨i,hi,r,B0,e0,s0,Y⟩:=AQ s;obtain⟨tt,sq,n⟩:=Vy hi;have hlen:(yA (jZ i)).length=(jZ i).length:=by unfold yA;rw[ag]
 have m1:=tt.n1;have m8:=tt.n8;obtain⟨B1,e1,x1⟩:=BO (by omega) (by omega) sq n Y
 have s1:=s0.ext x1;generalize J:yA (jZ i)=u at*;clear hlen Y;have n1:=tt.n1;have n8:=tt.n8;have kb:=jW tt;obtain⟨M,hM⟩:=bg (show 0<=z9 u-1 by omega)
 have el:=My (ws:=u.map zy) (ρ:=[some (.ref 0),some (zl u),none,none]) (i:=1) (A:=B1) rfl;rw[ag]at el;have e2:=F4 el (by omega)
 have S:iL (List.range u.length)=((List.range u.length).map λ(a:Nat)=>0+(a:Int)).map W.int:=by
  rw[aI]
  apply aL
  intro a _;show W.int (a:Int)=W.int (0+(a:Int));rw[Int.zero_add]
 rw[S]at e2;have s2:=s1.ext (Ext.one (o:=.lst (((List.range u.length).map λ(a:Nat)=>0+(a:Int)).map W.int)));obtain⟨h,f,fd,e3,U,p2,k2,N⟩:=Oz s2 qI (by simp;omega)
 obtain⟨d,rfl,po⟩:=PU p2;have Q:(d.map λ(k:Nat)=>(0:Int)+(k:Int))=d.map λ(k:Nat)=>(k:Int):=aL λa _=>by omega
 rw[Q]at U;have X:zC Jw (zh zj (zh (YX (mQ qQ (qo zt))) zo)) [some (.ref 0),some (zl u),none,none] B1=.ok (.ref h) f:=(qa (zG (zm (i:=0) rfl) (zG e2 zV))).trans e3;have hr20:0<h:=by have:=s1.lt;simp at N;omega
 have e4:qF (zh qp zo) [some (.ref 0),some (zl u),some (.ref h),none] f=.ok (.ref f.length) (f++[.lst [.int 0]]):=kq (zG qW zV);have s3:=k2.st.ext (Ext.one (o:=.lst [.int 0]));have z:=qZ (u:=.lst [.int 0]) U;have Z:(f++[.lst [.int 0]])[f.length]? =some (.lst [.int 0]):=qI;have h2l:=ZC U;have hB2:0<f.length:=by omega
 generalize f++[.lst [.int 0]]=B3 at e4 s3 z Z;have C:=OW tt (ρ:=[some (.ref 0),some (zl u),some (.ref h),none]) (i:=1) (A:=B3) rfl;rw[hM]at C;have e5:=Pc (ρ:=[some (.ref 0),some (zl u),some (.ref h),none]) (A:=B3) (M:=M) (ma:=qi (.int 1)) (mb:=zi qY qh (mQ yw (zH 1 [] (zN zt) (zD 0) zT (zF (mQ yw (qo zj)))))) qW ((zS qW C).trans rfl) (by omega)
 have s4:=s3.ext (Ext.one (o:=.lst (((List.range M).map λ(k:Nat)=>1+(k:Int)).map W.int)));obtain⟨r3,B4,fd3,e6,h3,p3,K,nw3⟩:=Oz s4 qI (by simp;omega)
 obtain⟨P,rfl,pp⟩:=PU p3;have y:=K.kp.get (qZ z) (by omega)
 have I:=K.kp.get (qZ Z) (by omega)
 have E:zi qY (qF (zh qp zo)) (zC Jw (zh zj (zh (QY qh (zi qY qh (mQ yw (zH 1 [] (zN zt) (zD 0) zT (zF (mQ yw (qo zj))))))) zo))) [some (.ref 0),some (zl u),some (.ref h),none] f=.ok (.ref B4.length) (B4++[.lst ((qU P).map W.int)]):=by
  refine(zS e4 ((qa (zG (zm (i:=0) rfl) (zG e5 zV))).trans e6)).trans ((P8 I h3 ?_).trans rfl)
  have:=pp.length_eq
  rw[aE]at this;rw[ag,ag,this];unfold zQ;simp;omega
 have T:=qZ (u:=.lst ((qU P).map W.int)) y;have h6:(B4++[.lst ((qU P).map W.int)])[B4.length]? =some (.lst ((qU P).map W.int)):=qI;have s5:=K.st.ext (Ext.one (o:=.lst ((qU P).map W.int)));generalize hB5:B4++[.lst ((qU P).map W.int)]=c at E T h6 s5;have hol:d.length=u.length:=by rw[po.length_eq,aE]
 have j:∀a∈d,a<u.length:=λa q=>cx.mp (po.mem_iff.mp q);have hpl:P.length=M:=by rw[pp.length_eq,aE]
 have x:(z9 u-1).toNat=M:=by omega
 have res:=X5 tt (p:=P) (o:=d) (by rw[x];exact pp) po
 refine⟨wz u P d,c,?_,s5,res.1,i,P,d,hi,by rw[J,x];exact pp,by rw[J];exact po,by rw[J]⟩
 unfold K3;refine qX ?_;unfold SX;refine(zP ((qV ((qa (zG ((qa (zG (zm (i:=0) rfl) zV)).trans e0) zV)).trans e1)).trans rfl)).trans ((zP ((qV X).trans rfl)).trans ((zP ((qV E).trans rfl)).trans (qN (jh ?_))));have inner:∀a,a∈d->∀b,b∈d->zi zM qg (zi zM (zi zM zI zt) zj) [some (.int (b:Int)),some (.int (a:Int)),some (zl u),some (.ref B4.length)] c=.ok (.int ((qU P).getD (at2 u a b).toNat 0)) c:=λa q b n=>by
  have L:=j a q;have D:=j b n;have bd:=Qv tt L D;have kg:=JY tt L D;obtain⟨v,H⟩:=bg bd.1;have e:zi zM (zi zM zI zt) zj [some (.int (b:Int)),some (.int (a:Int)),some (zl u),some (.ref B4.length)] c=.ok (.int (v:Int)) c:=by
   rw[<- H];exact(zS ((zS (zm rfl) (zm rfl)).trans (J6 L)) (zm rfl)).trans (VI (by rw[tt.sq _ (jC L)];exact D))
  have l:v<(qU P).length:=by
   show v<(P.map _).length+1;rw[ag];omega
  refine(zS (zm (i:=3) rfl) e).trans (JR h6 ?_);rw[H,aG,av,aa l,ab,aa l]
  rfl
 have ec:=Wt (cap:=[1,2,3]) (m:=qE 2) (me:=mQ jK (zH 1 [0,1,3] (zN zI) (zD 0) zT (zF (zi zM qg (zi zM (zi zM zI zt) zj))))) (ρ:=[some (.ref 0),some (zl u),some (.ref h),some (.ref B4.length)]) (A:=c) (g:=UL λa=>zy (d.map λb=>(qU P).getD (at2 u a b).toNat 0)) (zm rfl) T (by simp;unfold zQ;omega) (λw hw=>by
  obtain⟨v,H,rfl⟩:=cz.mp hw;obtain⟨a,q,rfl⟩:=cz.mp H;have ei:=Wt (cap:=[0,1,3]) (m:=qE 2) (me:=zi zM qg (zi zM (zi zM zI zt) zj)) (ρ:=[some (.int (a:Int)),some (zl u),some (.ref h),some (.ref B4.length)]) (A:=c) (g:=UL λb=>.int ((qU P).getD (at2 u a b).toNat 0)) (zm rfl) T (by simp;unfold zQ;omega) (λw hw=>by
   obtain⟨v,H,rfl⟩:=cz.mp hw;obtain⟨b,n,rfl⟩:=cz.mp H;refine(inner a q b n).trans ?_;show _=R.ok (W.int ((qU P).getD (at2 u a (Int.toNat (b:Int))).toNat 0)) c;rw[aG])
  rw[Ng]at ei;refine(gJ ei).trans ?_;show _=R.ok (zy (d.map λb=>(qU P).getD (at2 u (Int.toNat (a:Int)) b).toNat 0)) c;rw[aG];unfold zy;rw[aI]
  rfl)
 rw[Ng]at ec;refine(gJ ec).trans ?_;unfold zl wz;rw[aI]
 rfl
def Aw (s:jA n A):∃t B,QP [.ref n] A=.ok (zl t) B/\zX t/\Known t/\Kn n A B/\B.length=A.length:=by
 obtain⟨c,b,a,f,g⟩:=s;have hm:=ZC a;obtain⟨t,A1,e,⟨C,d,E,h,H⟩,T,K⟩:=AH (o:=.lst [.int c,.bl b]) ⟨c,b,rfl,f,g⟩;refine⟨t,A.set n (.lst [.int C,.bl d]),?_,T,K,⟨Kp.set,C,d,aT hm,h,H⟩,length_set ..⟩;unfold QP;exact Bf a rfl e E (QZ t)
end
end G
namespace Mi
open PySem L2
def EG {c:En}{N:Nat}{u v g:Nat->W}(t:∀i,i<N->j.at_ A i=some (some (.tup [u i,v i])))(H:j.at_ A N=some none)(he:∀i,i<N->me (some (u i)::some (v i)::c) A=.ok (g i) A):
  ∀(f i:Nat)(x y:Option W)(acc:List W),i+f=N->acc.length+f<=zQ->∃ρ,jj j (qP 0 1) (qi (.bl true)) (zF me) f i (x::y::c) acc A=.ok (ρ,acc++(List.range' i f).map g) A:=by
 intro f
 induction f with
 |zero=>
  intro i x y acc h l
  have:i=N:=by omega
  subst this;refine⟨x::y::c,?_⟩;unfold jj;rw[H];simp
 |succ f I=>
  intro i x y acc h l;obtain⟨ρ,e⟩:=I (i+1) (some (u i)) (some (v i)) (acc++[g i]) (by omega) (by rw[aB,bj];omega)
  refine⟨ρ,?_⟩;rw[jj,t i (by omega)]
  dsimp only;rw[show qP 0 1 (.tup [u i,v i]) (x::y::c)=some (some (u i)::some (v i)::c) from rfl]
  dsimp only[qi];rw[zJ];dsimp only;have E:zF me (some (u i)::some (v i)::c) acc A=.ok (some (u i)::some (v i)::c,acc++[g i]) A:=by
   unfold zF;rw[he i (by omega),zJ,ah (by omega)]
  rw[E,zJ];rw[e,aU,bK,aF]
  rfl
def HN {N:Nat}{u v g:Nat->W}(hm:mi ρ A=.ok j A)(b:j.len=N)(d:N<=1000)(H:∀i,i<N->j.at_ A i=some (some (.tup [u i,v i])))(h:j.at_ A N=some none)
  (he:∀i,i<N->me (some (u i)::some (v i)::cap.map λi=>(ρ[i]?).join) A=.ok (g i) A):zH 2 cap mi (qP 0 1) zT (zF me) ρ A=.ok ((List.range N).map g) A:=by
 obtain⟨a,e⟩:=EG (A:=A) (c:=cap.map λi=>(ρ[i]?).join) H h he N 0 none none [] (by omega) (by unfold zQ;simp;omega)
 unfold zH;rw[hm,zJ,b];show R.bind (R.nox (jj j _ _ _ N 0 (none::none::cap.map λi=>(ρ[i]?).join) [] A)) _=_;rw[e,<- bC,bx]
 rfl
def D5 {m':Ev}{us vs:List W}(h:m ρ A=.ok (.tup us) A)(h':m' ρ A=.ok (.tup vs) A):QA m m' ρ A=.ok (Zo (.tup us) (.tup vs) us.length) A:=by
 unfold QA;rw[h,zJ,h',zJ]
 rfl
end Mi
namespace G
open PySem L2 Mi
def JV {f:Fn}{us:List W}{k:Nat}(hn:qH us=true)(h:f us []=.ok (.ref k) A1)(H:A1[k]? =some (.lst ws))(hw:qH ws=true):iso f us A=.ok (.ref A.length) (A++[.lst ws]):=by
 unfold iso;rw[ah hn,h];dsimp only;rw[H];dsimp only;rw[ah hw]
section
def HM (h:n<1000000):je (n:Int)=true:=by
 unfold je;rw[ak,af,af];omega
def QV {k:Nat}{ds:List PyData}(h:A[n]? =some (.lst ws))(hd:yh (qc A k) ws=some ds):qc A (k+1) (.ref n)=some (.list ds):=by
 unfold qc;have e:zW (.ref n) A=some ws:=by unfold zW;dsimp only;rw[h]
 rw[e];dsimp only;rw[hd]
 rfl
def Mo {a b:W}{d:PyData}(c:qc A 8 a=some d)(H:qc A 8 b=some d)(h:PyData.eqv d d=true):qR a b A=.ok (.bl false) A:=by
 show kD true a b A=_;unfold kD;rw[c,H];dsimp only;rw[ah rfl,h]
 rfl
end
section
def hy (a:A[0]? =some (.ro (ns.map W.int)))(k:Nat):∃x:Int,KY [.ref 0,.int k] A=.ok (.int x) A:=by
 have H:zW (.ref 0) A=some (ns.map W.int):=by unfold zW;dsimp only;rw[a]
 have l:mQ qQ (qo zj) [some (.ref 0),some (.int k)] A=.ok (.int ns.length) A:=by
  rw[j3 (yY (w:=.ref 0) (A1:=A) (zm rfl) H)];unfold qQ;rw[ag]
 have e:zi Z1 zt (mQ qQ (qo zj)) [some (.ref 0),some (.int k)] A=.ok (.bl (decide ((k:Int)<ns.length))) A:=(zS (zm (w:=.int k) rfl) l).trans rfl
 by_cases h:k<ns.length
 ·refine⟨ns[k],qX ?_⟩
  unfold Xf;rw[aq (by omega)]at e
  refine qN ((Jd e).trans (qN (jh ?_)));refine(zS (x:=.ref 0) (y:=.int k) (A1:=A) (A2:=A) (zm rfl) (zm rfl)).trans ?_;unfold zM;rw[H];dsimp only;rw[WO (v:=.int ns[k]) (by rw[av,aa h];rfl)]
 ·refine⟨0,qX ?_⟩
  unfold Xf;rw[ax (by omega)]at e
  exact(zP ((ye e).trans rfl)).trans rfl
def AS (H:A[0]? =some (.ro (ns.map W.int)))(k:Nat):∃o,JC [.ref 0,.int k] A=.ok (.ref A.length) (A++[o])/\jA A.length (A++[o]):=by
 obtain⟨x,e⟩:=hy H k;have a:qe 2 (zC KY (zh zj (zh zt zo))) [some (.ref 0),some (.int k),none] A=.ok (.nx [some (.ref 0),some (.int k),some (.int x)]) A:=by
  refine(qV (w:=.int x) (A1:=A) ?_).trans rfl;rw[qa (ws:=[.ref 0,.int k]) (A1:=A) rfl];exact e
 have E:zi UN zI (zi Gu Uv (qi (.int 18))) [some (.ref 0),some (.int k),some (.int x)] A=.ok (.bl (decide ((1000000000000000000:Int)<=x))) A:=(zS (x:=.int x) (y:=.int 1000000000000000000) (A1:=A) (A2:=A) (zm rfl) rfl).trans rfl
 by_cases h:(1000000000000000000:Int)<=x
 ·refine⟨.lst [.int (x-1000000000000000000),.bl true],qX ?_,x-1000000000000000000,true,qI,by omega,λz=>nomatch z⟩
  unfold Xz;rw[aq h]at E;refine(zP a).trans (qN ((Jd E).trans (qN (jh (kq ?_)))))
  rfl
 ·refine⟨.lst [.int (x%2147483647),.bl false],qX ?_,x%2147483647,false,qI,emod_nonneg _ (by decide),λ_=>bU _ (by decide)⟩
  unfold Xz;rw[ax h]at E;refine(zP a).trans ((zP ((ye E).trans rfl)).trans (qN (jh (kq ?_))));refine zG (A1:=A) (A2:=A) ((zS (x:=.int x) (y:=.int 2147483647) (A1:=A) (A2:=A) (zm rfl) rfl).trans (J1 (by decide))) rfl
def Nc (h:zX t)(A:Hx):JF [zl t] A=.ok (.bl true) A:=Ar h A
def JG (h:zX t)(A:Hx):Zx [zl t] A=.ok .non A:=by
 unfold Zx Xd;refine Vs (ρ:=[some (zl t)]) ?_;unfold TU;refine(zP (ρ1:=[some (zl t)]) (A1:=A) ((ye (A1:=A) ?_).trans rfl)).trans rfl;exact wQ (k:=true) ((qa (ws:=[zl t]) (A1:=A) rfl).trans (Nc h A))
variable {a b k:Nat}{w:W}
def hA {ty:Ty}(h:QJ w A=some ty):(QC ty .int&&!QC ty .bl)=Li w:=by
 cases w with
 |ref k=>
  unfold QJ at h;dsimp only at h
  split at h
  ·cases h;rfl
  ·cases h;rfl
  ·cases h
 |clo _ _ _=>cases h|xc _=>cases h|_=>cases h;rfl
def Mj {a b:Ev}{p q:Bool}(h:a ρ A=.ok (.bl p) A)(H:b ρ A=.ok (.bl q) A):yg a b ρ A=.ok (.bl (p&&q)) A:=by
 cases p with
 |true=>exact(gI h).trans H|false=>exact NA h
def Bt {ty:Ty}(h:QJ w A=some ty):Qb [w] A=.ok (.bl (Li w)) A:=by
 unfold Qb Wh RO;refine qX (qN (jh ((Mj (Ui (zm rfl) h) (wQ (Ui (zm rfl) h))).trans ?_)));rw[hA h]
def JW (h:zX t)(A:Hx):gY [zl t] A=.ok (.int (z9 t)) A:=by
 refine Zc (A1:=[]) (kO t) rfl (qX ?_);unfold Sb;refine qN (jh ((zS (OW h rfl) qW).trans ?_));show R.ok (W.int (z9 t-1+1)) []=_
 congr 2
 omega
end
section
variable {N b:Nat}
def Ai {g:Nat->Int}{k:Int}(h:b<N):((List.range N).map λj=>W.int (g j)).set b (.int k)=(List.range N).map λj=>W.int (if j=b then k else g j):=by
 apply List.ext_getElem?
 intro i
 by_cases hi:i<N
 ·by_cases q:b=i
  ·subst q
   rw[aT (by simpa using hi),av,a6 hi]
   simp
  ·rw[aP q,av,av,a6 hi]
   simp[Ne.symm q]
 ·rw[aD (by simp;omega),aD (by simp;omega)]
end
structure LC (K:Nat)(μ:Nat->Nat->Int)(C:Hx):Prop where
 top:C[2 * K]? =some (.lst ((List.range K).map λi=>W.ref (2 * i+1)))
 row:∀i,i<K->C[2 * i+1]? =some (.lst ((List.range K).map λj=>W.int (μ i j)))
section
variable {K a b j:Nat}{C:Hx}
def LC.put (h:LC K μ C)(f:i<K)(e:j<K)(k:Int):∃b,wG (.ref (2 * i+1)) (.int (j:Int)) (.int k) C=.ok () b/\LC K (Jl μ i j k) b:=by
 have r:=h.row i f;have H:=ZC r;refine⟨_,BQ r (by simp;omega),?_,λc d=>?_⟩
 ·rw[aP (by omega)];exact h.top
 ·by_cases q:c=i
  ·subst q
   rw[aT H,Ai e]
   congr 3
   funext a
   unfold Jl
   by_cases z:a=j
   ·rw[ah z,ah ⟨rfl,z⟩]
   ·rw[aj z,aj (by rintro⟨_,w⟩;exact z w)]
  ·rw[aP (by omega),h.row c d]
   congr 3
   funext a
   unfold Jl;rw[aj (by rintro⟨w,_⟩;exact q w)]
def LC.aug (h:LC K μ C){mo mi:Ev}(o:mo ρ C=.ok (.ref (2 * i+1)) C)(b:mi ρ C=.ok (.int (j:Int)) C)(a:i<K)(H:j<K):∃c,Kh mo mi qh ρ C=.ok (.nx ρ) c/\LC K (Jl μ i j (μ i j+1)) c:=by
 obtain⟨c,e,l⟩:=h.put a H (μ i j+1);refine⟨c,?_,l⟩;unfold Kh;rw[o,zJ,b,zJ];dsimp only;rw[ah (by omega),h.row i a]
 dsimp only;rw[aG,av,a6 H];show R.bind (wG (.ref (2 * i+1)) (.int (j:Int)) (.int (μ i j+1)) C) _=_;rw[e,zJ]
def LC.ix (h:LC K μ C){mi:Ev}(hm:m ρ C=.ok (.ref (2 * K)) C)(H:mi ρ C=.ok (.int (i:Int)) C)(a:i<K):zi zM m mi ρ C=.ok (.ref (2 * i+1)) C:=
 (zS hm H).trans (JR h.top (by rw[av,a6 a];rfl))
def rep1 (w:W):∀n:Nat,(List.replicate n [w]).flatten=(List.range n).map λ_=>w:=λn=>by
 rw[List.map_const',aE]
 induction n with
 |zero=>rfl|succ n i=>rw[bq,aZ,i];rfl
def Co (n:K<=8){x0 x1 x2 x4:Option W}{l:List (Option W)}:∃C,qm (zH 1 [3] (j9 qg) (zD 0) zT (zF (zi ji (qF (zh qp zo)) zt))) (x0::x1::x2::some (.int (K:Int))::x4::l) []=.ok (.ref (2 * K)) C/\LC K (λ_ _=>0) C:=by
 have hm:=YO (m:=qE 3) (ρ:=x0::x1::x2::some (.int (K:Int))::x4::l) (A:=[]) (k:=(K:Int)) rfl (gC (by omega))
 rw[aG]at hm;obtain⟨g,acc,B,e,_,H,h⟩:=YA (nl:=1) (cap:=[3]) (tw:=zD 0) (ifs:=qi (.bl true)) (em:=zF (zi ji (qF (zh qp zo)) zt)) (N:=K)
  (I:=λi ρ acc B=>(∃y,ρ=[y,some (.int (K:Int))])/\(B.length=2 * i/\∀c,c<i->B[2 * c+1]? =some (.lst ((List.range K).map λj=>W.int 0)))/\acc=(List.range i).map λc=>W.ref (2 * c+1)) hm rfl
  (λi ρ acc B b ⟨⟨y,a⟩,⟨d,H⟩,h⟩=>by
   subst a h;refine⟨_,_,Qm b,rfl,.inl ⟨B,_,_,B++[.lst [.int 0]]++[.lst ((List.range K).map λj=>W.int 0)],rfl,JL (y:=.ref (2 * i+1)) ?_ (by rw[ag,aE];unfold zQ;omega),⟨_,rfl⟩,⟨by simp;omega,λc f=>?_⟩,by rw[bf,aQ];rfl⟩⟩
   ·refine(zS (kq (zG qW zV)) (zm (i:=1) (w:=.int (K:Int)) rfl)).trans ?_
    unfold ji;dsimp only;rw[qI];dsimp only;rw[ah (by rw[gC (by omega),aG];simp;unfold zQ;omega),aG,aB,d,rep1]
    rfl
   ·by_cases q:c=i
    ·subst q
     rw[ar (by simp;omega)]
     simp[d]
    ·rw[ai (by simp;omega),ai (by omega)]
     exact H c (by omega))
  (λρ acc B _=>Qg (by omega)) ⟨⟨none,rfl⟩,⟨rfl,λc f=>absurd f (not_lt_zero _)⟩,rfl⟩
 subst h;refine⟨B++[.lst ((List.range K).map λc=>W.ref (2 * c+1))],?_,?_,λi b=>?_⟩
 ·rw[yN e,H.1]
 ·rw[<- H.1];exact qI
 ·exact qZ (H.2 i b)
theorem LC.tup (h:LC K μ C)(d:K<=8){i:Nat}(b:ρ[i]? =some (some (.ref (2 * K)))):mQ jK (zH 1 [] (zN (qE i)) (zD 0) zT (zF (mQ jK (qo zj)))) ρ C=.ok (zl (yD K μ)) C:=by
 have e:=Wt (cap:=[]) (ws:=(List.range K).map λi=>W.ref (2 * i+1)) (me:=mQ jK (qo zj)) (zm b) h.top (by simp;unfold zQ;omega) (g:=λw=>match w with|.ref n=>(match C[n]? with|some (.lst ws)=>.tup ws|_=>.non)|_=>.non) (λw hw=>by
  obtain⟨c,a,rfl⟩:=cz.mp hw;have H:=h.row c (cx.mp a);dsimp only;rw[H];exact gJ (yY (w:=.ref (2 * c+1)) (A1:=C) (zm rfl) (by unfold zW;dsimp only;rw[H])))
 rw[gJ e]
 congr 1
 unfold zl yD;rw[aI,aI]
 congr 1
 refine aL λc a=>?_;have H:=h.row c (cx.mp a);show(match C[2 * c+1]? with|some (.lst ws)=>W.tup ws|_=>.non)=zy ((List.range K).map (μ c))
 rw[H];unfold zy;rw[aI]
 rfl
def shr (t:b0)(a b:Nat):Nat->Nat->Nat->Int
 |0=>λ_ _=>0|n+1=>Jl (shr t a b n) (at2 t a n).toNat (at2 t b n).toNat (shr t a b n (at2 t a n).toNat (at2 t b n).toNat+1)
def j7 (t:b0)(K a b:Nat):b0:=yD K (shr t a b t.length)
def kZ (ht:zX t)(c:z9 t=(K:Int))(H:a<t.length)(h:b<t.length):((at2 t a b).toNat:Int)=at2 t a b/\(at2 t a b).toNat<K:=by
 have e:=Qv ht H h;have d:=JY ht H h;omega
def XZ (ht:zX t)(f:z9 t=(K:Int))(c:a<t.length)(H:b<t.length)(A:Hx):gx [zl t,.int (a:Int),.int (b:Int)] A=.ok (zl (j7 t K a b)) A:=by
 have n8:=ht.n8;have v:=jW ht;have d:((t.getD a []).map W.int).length=t.length:=by rw[ag,ht.sq _ (jC c)]
 have r:((t.getD b []).map W.int).length=t.length:=by rw[ag,ht.sq _ (jC H)]
 obtain⟨C,s,o⟩:=Co (K:=K) (by omega) (x0:=some (zl t)) (x1:=some (.int (a:Int))) (x2:=some (.int (b:Int))) (x4:=none) (l:=[none,none])
 obtain⟨g,B,E,L,Y,y,h⟩:=Qa (j:=Zo (.tup ((t.getD a []).map W.int)) (.tup ((t.getD b []).map W.int)) ((t.getD a []).map W.int).length) (st:=turn (qP 5 6) (zq (Kh (zi zM qd qT) gT qh) zx)) (N:=t.length)
  (I:=λn ρ B=>LC K (shr t a b n) B/\∃Y y,ρ=[some (zl t),some (.int (a:Int)),some (.int (b:Int)),some (.int (K:Int)),some (.ref (2 * K)),Y,y])
  (λn ρ B hn ⟨l,Y,y,h⟩=>by
   subst h;obtain⟨m,q⟩:=kZ ht f c hn;obtain⟨i,Q⟩:=kZ ht f H hn;obtain⟨u,e,p⟩:=l.aug (ρ:=[some (zl t),some (.int (a:Int)),some (.int (b:Int)),some (.int (K:Int)),some (.ref (2 * K)),some (.int (at2 t a n)),some (.int (at2 t b n))]) (mo:=zi zM qd qT) (mi:=qE 6) (l.ix (zm rfl) (zm (by rw[m];rfl)) q) (zm (by rw[i];rfl)) q Q
   refine⟨.tup [.int (at2 t a n),.int (at2 t b n)],_,u,?_,(kX rfl).trans ((zP e).trans jo),p,_,_,rfl⟩;show some (zip2 ((t.getD a []).map W.int)[n]? ((t.getD b []).map W.int)[n]?)=_;rw[int_at (by rw[ht.sq _ (jC c)];exact hn),int_at (by rw[ht.sq _ (jC H)];exact hn)]
   rfl)
  (λρ B _=>by
   show some (zip2 ((t.getD a []).map W.int)[t.length]? ((t.getD b []).map W.int)[t.length]?)=_;rw[aD (by omega),aD (by omega)]
   rfl) t.length 0 [some (zl t),some (.int (a:Int)),some (.int (b:Int)),some (.int (K:Int)),some (.ref (2 * K)),none,none] C (by omega) ⟨o,_,_,rfl⟩
 subst h;refine Zc (A1:=B) (kO t) (QZ _) (qX ?_);unfold TX;refine(zP (qV ((qa (zG (zm rfl) zV)).trans ((JW ht []).trans (by rw[f]))))).trans ?_
 refine(zP (qV s)).trans ?_;refine(zP (ρ1:=[some (zl t),some (.int (a:Int)),some (.int (b:Int)),some (.int (K:Int)),some (.ref (2 * K)),Y,y]) (A1:=B) ((kU (D5 ((zS (zm rfl) (zm rfl)).trans (J6 c)) ((zS (zm rfl) (zm rfl)).trans (J6 H)))).trans ?_)).trans (qN (jh (L.tup (by omega) rfl)))
 have:(Zo (.tup ((t.getD a []).map W.int)) (.tup ((t.getD b []).map W.int)) ((t.getD a []).map W.int).length).len=t.length:=d
 rw[this];exact E
variable {w:W}
def Vm {a:En}{w:W}(h:m ρ A=.ok w A1)(h':tw w ρ=some a):Zr m tw ρ A=.ok (.nx a) A1:=by
 unfold Zr;rw[h,zJ,h']
end
def ZW (t:b0)(a b:Nat):List (Int×Int):=(List.range t.length).map λc=>(at2 t a c,at2 t b c)
def wY (t:b0):Prop:=∀a b c e,a<t.length->b<t.length->c<t.length->e<t.length->at2 t a b=at2 t c e->(ZW t a b).Perm (ZW t c e)
def hE (t:b0)(k:Int):Nat:=((List.range (t.length * t.length)).find? λm=>decide (at2 t (m/t.length) (m%t.length)=k)).getD 0
def WV (t:b0):Bool:=(List.range t.length).all λa=>(List.range t.length).all λb=>let m:=hE t (at2 t a b);(ZW t a b).isPerm (ZW t (m/t.length) (m%t.length))
def RA (h:WV t=true):wY t:=λa b c e l j i he g=>by
 unfold WV at h;rw[aX]at h;have f:=h a (cx.mpr l);rw[aX]at f;have m:=List.isPerm_iff.mp (f b (cx.mpr j));have d:=h c (cx.mpr i);rw[aX]at d;have H:=List.isPerm_iff.mp (d e (cx.mpr he));rw[<- g]at H;exact m.trans H.symm
def Fv:((List.range 34).all λi=>WV (yA (jZ i)))=true:=by decide +kernel
def Nq {p:b7}(b:p.Nodup){u v:Nat}(H:u<=p.length)(h:v<=p.length)(e:(qU p).getD u 0=(qU p).getD v 0):u=v:=by
 by_cases h1:u=0
 ·by_cases a:v=0
  ·omega
  ·exfalso
   subst h1;rw[Qi (v:=v) (by omega) h]at e
   have:(qU p).getD 0 0=0:=rfl
   omega
 ·by_cases a:v=0
  ·exfalso
   subst a;rw[Qi (v:=u) (by omega) H]at e
   have:(qU p).getD 0 0=0:=rfl
   omega
  ·rw[Qi (by omega) H,Qi (by omega) h]at e
   have E:p[u-1]'(by omega)=p[v-1]'(by omega):=by omega
   have:=(getElem_inj b).mp E
   omega
section
variable {p o:b7}
def P7 (H:o.Perm (List.range t.length)){a b:Nat}(d:a<t.length)(c:b<t.length):at2 (wz t p o) a b=(qU p).getD (at2 t (o.getD a 0) (o.getD b 0)).toNat 0:=by
 have h:o.length=t.length:=by rw[H.length_eq,aE]
 unfold at2 wz;rw[ab (l:=List.map _ o),av,aa (by omega)]
 show(List.map _ o).getD b 0=_;rw[ab,av,aa (by omega)]
 show(qU p).getD (at2 t _ _).toNat 0=_;unfold at2;rw[ab (l:=o) (i:=a),aa (by omega),ab (l:=o) (i:=b),aa (by omega)]
 rfl
def Py {u v:b0}{f:Int->Int}(n:u.length=v.length)(m:o.Perm (List.range v.length))(j:∀a b,a<v.length->b<v.length->at2 u a b=f (at2 v (o.getD a 0) (o.getD b 0)))
  (hf:∀a b c e,a<v.length->b<v.length->c<v.length->e<v.length->f (at2 v a b)=f (at2 v c e)->at2 v a b=at2 v c e)(s:wY v):wY u:=by
 have l:o.length=v.length:=by rw[m.length_eq,aE]
 have h:∀i,i<v.length->o.getD i 0<v.length:=λi t=>by
  rw[ab,aa (by omega)]
  exact cx.mp (m.mem_iff.mp (aS _))
 have r:∀a b,a<v.length->b<v.length->(ZW u a b).Perm ((ZW v (o.getD a 0) (o.getD b 0)).map λq=>(f q.1,f q.2)):=λa b g d=>by
  unfold ZW;rw[n,aI];have p:(List.range v.length).map (λc=>(at2 u a c,at2 u b c))=(List.range v.length).map λc=>(f (at2 v (o.getD a 0) (o.getD c 0)),f (at2 v (o.getD b 0) (o.getD c 0))):=aL λc H=>by
   rw[j a c g (cx.mp H),j b c d (cx.mp H)]
  rw[p];have E:=QO o 0 λc=>(f (at2 v (o.getD a 0) c),f (at2 v (o.getD b 0) c));rw[l]at E;rw[<- E];exact m.map _
 intro a b c e g d H he q;rw[n]at g d H he;rw[j a b g d,j c e H he]at q
 have:=s _ _ _ _ (h a g) (h b d) (h c H) (h e he) (hf _ _ _ _ (h a g) (h b d) (h c H) (h e he) q)
 exact(r a b g d).trans ((this.map _).trans (r c e H he).symm)
def Fb (h:zX t)(g:p.Perm (List.range (z9 t-1).toNat))(i:o.Perm (List.range t.length))(s:wY t):wY (wz t p o):=by
 have m:p.length=(z9 t-1).toNat:=by rw[g.length_eq,aE]
 have u:=jW h;have n:p.Nodup:=(g.nodup_iff).mpr bX;have j:∀a b,a<t.length->b<t.length->(at2 t a b).toNat<=p.length/\((at2 t a b).toNat:Int)=at2 t a b:=λa b d H=>by
  have:=Qv h d H
  have:=JY h d H
  omega
 refine Py (f:=λv=>(qU p).getD v.toNat 0) (X5 h g i).2 i (λa b d H=>P7 i d H) (λa b c e d H r he q=>?_) s;have l:=j _ _ d H;have K:=j _ _ r he
 have:=Nq n l.1 K.1 q
 omega
def Wa (h:Known t):wY t:=by
 obtain⟨i,p,o,H,a,b,rfl⟩:=h;have s:=cB.mp Fv i (cx.mpr H);exact Fb (Vy H).1 a b (RA s)
variable {a b c e K:Nat}
theorem YD (ht:zX t)(H:a<t.length)(h:b<t.length):∀n,n<=t.length->∀i j:Nat,shr t a b n i j=((((List.range n).map λc=>(at2 t a c,at2 t b c)).count ((i:Int),(j:Int)):Nat):Int)
 |0,_,i,j=>rfl|n+1,hn,i,j=>by
  have I:=YD ht H h n (by omega)
  have e:=(Qv ht H (show n<t.length by omega)).1
  have K:=(Qv ht h (show n<t.length by omega)).1
  rw[bf,aQ,List.count_append,List.map_singleton,List.count_singleton];show Jl (shr t a b n) (at2 t a n).toNat (at2 t b n).toNat (shr t a b n (at2 t a n).toNat (at2 t b n).toNat+1) i j=_;unfold Jl
  by_cases q:i=(at2 t a n).toNat/\j=(at2 t b n).toNat
  ·rw[ah q,<- q.1,<- q.2,I,ah (by rw[aV];ext<;>simp<;>omega)]
   omega
  ·rw[aj q,I,aj (by
    rw[aV];intro z;injection z with d Z
    exact q ⟨by omega,by omega⟩)]
   omega
def Oq (ht:zX t)(s:wY t)(d:a<t.length)(H:b<t.length)(h:c<t.length)(he:e<t.length)(q:at2 t a b=at2 t c e):j7 t K a b=j7 t K c e:=by
 unfold j7 yD;refine aL λi _=>aL λj _=>?_;rw[YD ht d H _ (ao _),YD ht h he _ (ao _)]
 have:=(s a b c e d H h he q).count_eq ((i:Int),(j:Int))
 unfold ZW at this;rw[this]
end
def XT {st:W->Ex}{N:Nat}{I:Nat->En->Hx->Prop}{Q:W->Hx->Prop}
  (p:∀i ρ A,i<N->I i ρ A->∃w,j.at_ A i=some (some w)/\((∃ρ1 A1,st w ρ A=.ok (.nx ρ1) A1/\I (i+1) ρ1 A1)∨∃r A1,st w ρ A=.ok (.rt r) A1/\Q r A1))(d:∀ρ A,I N ρ A->j.at_ A N=some none):
  ∀(f i:Nat)(ρ:En)(A:Hx),i+f=N->I i ρ A->(∃a b,ym j st f i ρ A=.ok (.nx a) b/\I N a b)∨∃r b,ym j st f i ρ A=.ok (.rt r) b/\Q r b:=by
 intro f
 induction f with
 |zero=>
  intro i ρ A h c
  have:i=N:=by omega
  subst this;exact .inl ⟨ρ,A,XS (d _ _ c),c⟩
 |succ f m=>
  intro i ρ A h c;obtain⟨w,l,H|H⟩:=p i ρ A (by omega) c
  ·obtain⟨ρ1,A1,H,g⟩:=H
   rcases m (i+1) ρ1 A1 (by omega) g with ⟨a,b,e,q⟩|⟨r,b,e,q⟩
   ·exact .inl ⟨a,b,(Ws l H).trans e,q⟩
   ·exact .inr ⟨r,b,(Ws l H).trans e,q⟩
  ·obtain⟨r,A1,H,g⟩:=H
   refine .inr ⟨r,A1,?_,g⟩;unfold ym;rw[l];dsimp only;rw[H]
   rfl
noncomputable def wC (r:b3):PyData:=.tuple (r.map .int)
def Uu (t:b0):PyData:=.tuple (t.map wC)
theorem YI {f:W->Option PyData}{g:α->W}{h:α->PyData}(e:∀a,f (g a)=some (h a)):∀l:List α,yh f (l.map g)=some (l.map h)
 |[]=>rfl|a::l=>by
  rw[aF,yh,e a,YI e l]
  rfl
def YZ (A:Hx)(n:Nat)(r:b3):qc A (n+1) (zy r)=some (wC r):=by
 show(yh (qc A n) (r.map W.int)).map PyData.tuple=_;rw[YI (h:=PyData.int) (λi=>by cases n<;>rfl)]
 rfl
def Ni (A:Hx)(n:Nat)(t:b0):qc A (n+2) (zl t)=some (Uu t):=by
 show(yh (qc A (n+1)) (t.map zy)).map PyData.tuple=_;rw[YI (h:=wC) (YZ A n)]
 rfl
section
variable {k:Nat}{w:W}{kvs:List (Key×W)}
theorem PK {k:Key}{w:W}:∀{kvs:List (Key×W)},yi k kvs=some w->(k,w)∈kvs
 |[],h=>by cases h|(j,u)::r,h=>by
  have h:(if j=k then some u else yi k r)=some w:=h
  by_cases q:j=k
  ·rw[ah q]at h;cases h;subst q;exact ay ..
  ·rw[aj q]at h;exact aw _ (PK h)
def OJ {f:Fn}{us:List W}{k:Nat}(hn:qH us=true)(h:f us []=.ok (.ref k) A1)(H:A1[k]? =some (.dct kvs))(hw:qH (kvs.map (·.2))=true):iso f us A=.ok (.ref A.length) (A++[.dct kvs]):=by
 unfold iso;rw[ah hn,h];dsimp only;rw[H];dsimp only;rw[ah hw]
end
theorem XB:∀s t:b0,PyData.eqvAll (s.map wC) (t.map wC)=decide (s=t)
 |[],[]=>by simp[PyData.eqvAll]|[],_::_=>by simp[PyData.eqvAll]|_::_,[]=>by simp[PyData.eqvAll]|a::l,b::m=>by
  simp only[aF,PyData.eqvAll,XB l m,wC,PyData.eqv,JD];rw[Bool.eq_iff_iff];simp
def hF (s t:b0)(A:Hx):qR (zl s) (zl t) A=.ok (.bl (!decide (s=t))) A:=by
 show kD true _ _ A=_;unfold kD;rw[Ni A 6 s,Ni A 6 t];dsimp only;rw[ah rfl,Uu,Uu,PyData.eqv,XB]
def Lg (r s:b3)(A:Hx):qR (zy r) (zy s) A=.ok (.bl (!decide (r=s))) A:=by
 show kD true _ _ A=_;unfold kD;rw[YZ A 7 r,YZ A 7 s];dsimp only;rw[ah rfl,wC,wC,PyData.eqv,JD]
noncomputable def MJ (a b c e:Nat):W:=.tup [.int (a:Int),.int (b:Int),.int (c:Int),.int (e:Int)]
noncomputable def pre (n a b:Nat):List (Nat×Nat):=((List.range a).flatMap λx=>(List.range n).map λy=>(x,y))++(List.range b).map λy=>(a,y)
def yG (n:Nat):List (Nat×Nat):=pre n n 0
section
variable {a b c e:Nat}
def Uk:pre n a (b+1)=pre n a b++[(a,b)]:=by
 unfold pre;rw[bf,aQ,<- aU]
 rfl
def Gh:pre n a n=pre n (a+1) 0:=by
 unfold pre;rw[bf,br];simp
def BC {x y:Nat}:(x,y)∈pre n a b↔(x<a/\y<n)∨(x=a/\y<b):=by
 unfold pre;rw[List.mem_append,List.mem_flatMap]
 constructor
 ·rintro(⟨z,h1,d⟩|h)
  ·obtain⟨u,c,H⟩:=cz.mp d
   cases H;exact .inl ⟨cx.mp h1,cx.mp c⟩
  ·obtain⟨u,c,H⟩:=cz.mp h
   cases H;exact .inr ⟨rfl,cx.mp c⟩
 ·rintro(⟨h1,d⟩|⟨rfl,h⟩)
  ·exact .inl ⟨x,cx.mpr h1,cz.mpr ⟨y,cx.mpr d,rfl⟩⟩
  ·exact .inr (cz.mpr ⟨y,cx.mpr h,rfl⟩)
def Q3 {x y:Nat}:(x,y)∈yG n↔x<n/\y<n:=by
 unfold yG;rw[BC];omega
def hG (h:a<=n):∃r,yG n=pre n a 0++r:=by
 obtain⟨d,rfl⟩:∃d,n=a+d:=⟨n-a,by omega⟩
 have:∀d m,∃r,pre m (a+d) 0=pre m a 0++r:=by
  intro d
  induction d with
  |zero=>intro m;exact⟨[],by simp⟩|succ d i=>
   intro m;obtain⟨r,H⟩:=i m;refine⟨r++(List.range m).map λy=>(a+d,y),?_⟩;rw[<- Nat.add_assoc,<- Gh,<- aU,<- H];unfold pre;simp
 exact this d _
def hH (h:a<n)(H:b<=n):∃r,pre n (a+1) 0=pre n a b++r:=by
 rw[<- Gh];obtain⟨d,rfl⟩:∃d,n=b+d:=⟨n-b,by omega⟩
 refine⟨(List.range d).map λy=>(a,b+y),?_⟩;unfold pre;rw[List.range_add,aQ,aU,aI];simp
def pre_split (h:c<n)(he:e<n):∃r,yG n=pre n c e++(c,e)::r:=by
 obtain⟨f,g⟩:=hG (n:=n) (a:=c+1) h;obtain⟨d,H⟩:=hH (n:=n) (a:=c) (b:=e+1) h he;exact⟨d++f,by rw[g,H,Uk];simp⟩
def Ak:(pre n a b).length=a * n+b:=by
 unfold pre;rw[aB,ag,aE,List.length_flatMap]
 congr 1
 rw[aL (g:=λ_=>n) (λx _=>by rw[ag,aE])]
 rw[List.map_const',List.sum_replicate_nat,aE]
variable {w:W}{acc L:List (Nat×Nat)}{p q:Nat×Nat}
abbrev jB (t:b0)(p:Nat×Nat):Int:=at2 t p.1 p.2
def ZQ (t:b0)(acc:List (Nat×Nat))(p:Nat×Nat):List (Nat×Nat):=if acc.any (λq=>decide (jB t q=jB t p)) then acc else acc++[p]
def j5 (t:b0)(L:List (Nat×Nat)):List (Nat×Nat):=L.foldl (ZQ t) []
def Y4:j5 t (L++[p])=ZQ t (j5 t L) p:=by
 unfold j5;rw[foldl_append]
 rfl
def snoc_ind {P:List α->Prop}(h0:P [])(h:∀l a,P l->P (l++[a])):∀l,P l:=λl=>by
 have:∀l:List α,P l.reverse:=λl=>by
  induction l with
  |nil=>exact h0|cons a l i=>rw[List.reverse_cons];exact h _ _ i
 have:=this l.reverse
 rwa[List.reverse_reverse]at this
def CN:(j5 t L).length<=L.length:=by
 refine snoc_ind (P:=λL=>(j5 t L).length<=L.length) (ao _) (λl p i=>?_) L;rw[Y4,aB,bj];unfold ZQ
 split
 ·omega
 ·rw[aB,bj];omega
def X7:∀p∈j5 t L,p∈L:=by
 refine snoc_ind (P:=λL=>∀p∈j5 t L,p∈L) (λ_ h=>h) (λl p i=>?_) L;intro q H;rw[Y4]at H;unfold ZQ at H
 split at H
 ·exact aY _ (i q H)
 ·rcases List.mem_append.mp H with h|h
  ·exact aY _ (i q h)
  ·exact aK _ h
def DA:∀p∈L,∃q∈j5 t L,jB t q=jB t p:=by
 refine snoc_ind (P:=λL=>∀p∈L,∃q∈j5 t L,jB t q=jB t p) (λ_ h=>by cases h) (λl p i=>?_) L
 intro q b;rw[Y4];unfold ZQ;rcases List.mem_append.mp b with h|h
 ·obtain⟨r,a,H⟩:=i q h
  split
  ·exact⟨r,a,H⟩
  ·exact⟨r,aY _ a,H⟩
 ·rw[cC.mp h]
  split
  ·rename_i c
   obtain⟨r,a,H⟩:=List.any_eq_true.mp c;exact⟨r,a,of_decide_eq_true H⟩
  ·exact⟨p,aK _ (cC.mpr rfl),rfl⟩
def Bw {γ:Type}{f:Nat×Nat->List γ}:(∀p∈L,∀q∈L,jB t p=jB t q->f p=[]->f q=[])->((j5 t L).flatMap f).head? =(L.flatMap f).head?:=by
 refine snoc_ind (P:=λL=>(∀p∈L,∀q∈L,jB t p=jB t q->f p=[]->f q=[])->((j5 t L).flatMap f).head? =(L.flatMap f).head?) (λ_=>rfl) (λl p i hf=>?_) L;have i:=i λx b y a=>hf x (aY _ b) y (aY _ a);rw[Y4,br,head?_append,<- i];unfold ZQ
 split
 ·rename_i c
  obtain⟨r,H,d⟩:=List.any_eq_true.mp c;cases h:((j5 t l).flatMap f).head? with
  |some x=>rfl|none=>
   rw[List.head?_eq_none_iff,List.flatMap_eq_nil_iff]at h
   have:=hf r (aY _ (X7 r H)) p (aK _ (cC.mpr rfl)) (of_decide_eq_true d) (h r H)
   simp[this]
 ·rw[br,head?_append]
def jV (t:b0)(p:Nat×Nat):Key×W:=(.inl (jB t p),.tup [.int (p.1:Int),.int (p.2:Int)])
theorem Vk {v:Int}:∀acc:List (Nat×Nat),(yi (.inl v) (acc.map (jV t))).isSome=acc.any λq=>decide (jB t q=v)
 |[]=>rfl|q::l=>by
  show(if (Sum.inl (jB t q):Key)=.inl v then some _ else yi (.inl v) (l.map (jV t))).isSome=(decide (jB t q=v) || l.any λq=>decide (jB t q=v))
  by_cases h:jB t q=v
  ·rw[ah (by rw[h]),aq h];rfl
  ·rw[aj (λe=>h (by injection e)),ax h,Vk l,Bool.false_or]
def Cf {x3:Option W}(H:acc.length<1000):
  ∃w,J8 ZE zt qT (qM (zh zI (zh qd zo))) [some (zl t),some (.ref 0),some (.int (a:Int)),x3,some (.int (b:Int)),some (.int (at2 t a b))] [.dct (acc.map (jV t))]=.ok w [.dct ((ZQ t acc (a,b)).map (jV t))]:=by
 have E:J8 ZE zt qT (qM (zh zI (zh qd zo))) [some (zl t),some (.ref 0),some (.int (a:Int)),x3,some (.int (b:Int)),some (.int (at2 t a b))] [.dct (acc.map (jV t))]=ZE (.ref 0) (.int (at2 t a b)) (.tup [.int (a:Int),.int (b:Int)]) [.dct (acc.map (jV t))]:=rfl;rw[E];unfold ZE;show ∃w,(if (acc.map (jV t)).length<zQ then(match yi (.inl (at2 t a b)) (acc.map (jV t)) with|some w=>R.ok w [.dct (acc.map (jV t))]|none=>.ok (.tup [.int (a:Int),.int (b:Int)]) [O.dct (acc.map (jV t)++[((Sum.inl (at2 t a b):Key),W.tup [.int (a:Int),.int (b:Int)])])]) else .bad)=.ok w [.dct ((ZQ t acc (a,b)).map (jV t))]
 rw[ah (by rw[ag];unfold zQ;omega)]
 have h:=Vk (t:=t) (v:=at2 t a b) acc;unfold ZQ;cases e:yi (.inl (at2 t a b)) (acc.map (jV t)) with
 |some w=>
  rw[e]at h;rw[ah (show(acc.any λq=>decide (jB t q=jB t (a,b)))=true from h.symm)]
  exact⟨w,rfl⟩
 |none=>
  rw[e]at h;rw[aj (show ¬(acc.any λq=>decide (jB t q=jB t (a,b)))=true from λz=>by have z:=h.trans z;cases z)]
  exact⟨_,by rw[aQ];rfl⟩
def Nh (ht:zX t):Xs [zl t] []=.ok (.ref 0) [.dct ((j5 t (yG t.length)).map (jV t))]:=by
 have n8:=ht.n8;have c:(t.map zy).length=t.length:=ag ..;have n:∀a b,a<t.length->b<t.length->(j5 t (pre t.length a b)).length<1000:=λa b f p=>by
  have q:=CN (t:=t) (L:=pre t.length a b);rw[Ak]at q
  have:a * t.length<=8 * 8:=mul_le_mul (by omega) n8
  omega
 obtain⟨g,B,e,H,y2,y3,Y,y,h⟩:=Qa (j:=yu (zl t) t.length) (st:=turn (qP 2 3) (zq (jT (j4 qg) (qP 4 5) (zq (yj (J8 ZE zt qT (qM (zh zI (zh qd zo))))) zx)) zx)) (N:=t.length)
  (I:=λa ρ B=>B=[.dct ((j5 t (pre t.length a 0)).map (jV t))]/\∃y2 y3 Y y,ρ=[some (zl t),some (.ref 0),y2,y3,Y,y])
  (λa ρ B f ⟨H,y2,y3,Y,y,h⟩=>by
   subst H h;have o:=ht.sq _ (jC f);have d:((t.getD a []).map W.int).length=t.length:=by rw[ag,o]
   obtain⟨g,B,e,H,l,i,h⟩:=Qa (j:=yu (.tup ((t.getD a []).map W.int)) ((t.getD a []).map W.int).length) (st:=turn (qP 4 5) (zq (yj (J8 ZE zt qT (qM (zh zI (zh qd zo))))) zx)) (N:=t.length)
    (I:=λb ρ B=>B=[.dct ((j5 t (pre t.length a b)).map (jV t))]/\∃Y y,ρ=[some (zl t),some (.ref 0),some (.int (a:Int)),some (zy (t.getD a [])),Y,y])
    (λb ρ B p ⟨H,Y,y,h⟩=>by
     subst H h;obtain⟨w,e⟩:=Cf (a:=a) (b:=b) (x3:=some (zy (t.getD a []))) (n a b f p);rw[<- Y4,<- Uk]at e;exact⟨_,_,_,Q9 (int_at (by omega)),(kX rfl).trans ((zP (wy e)).trans jo),rfl,_,_,rfl⟩)
    (λρ B _=>by have:=Q5 (A:=B) (ws:=(t.getD a []).map W.int);rw[d]at this ⊢;exact this) t.length 0 [some (zl t),some (.ref 0),some (.int (a:Int)),some (zy (t.getD a [])),Y,y] _ (by omega) ⟨rfl,_,_,rfl⟩
   rw[Gh]at H;subst H h;refine⟨.tup [.int (a:Int),zy (t.getD a [])],[some (zl t),some (.ref 0),some (.int (a:Int)),some (zy (t.getD a [])),l,i],_,?_,(kX (ρ1:=[some (zl t),some (.ref 0),some (.int (a:Int)),some (zy (t.getD a [])),Y,y]) rfl).trans ((zP ((kU (QS (zm rfl))).trans ?_)).trans jo),rfl,_,_,_,_,rfl⟩
   ·have:=Q9 (A:=[O.dct ((j5 t (pre t.length a 0)).map (jV t))]) (k8 f)
    rw[c]at this;exact this
   ·have:(yu (.tup ((t.getD a []).map W.int)) ((t.getD a []).map W.int).length).len=t.length:=d
    rw[this];exact e)
  (λρ B _=>by have:=Q5 (A:=B) (ws:=t.map zy);rw[c]at this;exact this) t.length 0 [some (zl t),some (.ref 0),none,none,none,none] [.dct []] (by omega)
  ⟨rfl,_,_,_,_,rfl⟩
 subst H h;refine qX ?_;unfold So;refine(zP (qV (w:=.ref 0) (A1:=[.dct []]) rfl)).trans ?_;have hm:j4 zj [some (zl t),some (.ref 0),none,none,none,none] [.dct []]=.ok (yu (zl t) t.length) [.dct []]:=by
  have:=QS (m:=qE 0) (ρ:=[some (zl t),some (.ref 0),none,none,none,none]) (A:=[.dct []]) (A1:=[.dct []]) (ws:=t.map zy) (zm rfl)
  rw[c]at this;exact this
 exact(zP ((kU hm).trans e)).trans (qN (jh (zm rfl)))
def Ul:qH ((acc.map (jV t)).map (·.2))=true:=by
 induction acc with
 |nil=>rfl|cons p l i=>exact i
end
noncomputable abbrev B4:=(Nat×Nat)×(Nat×Nat)
section
variable {B:Hx}{a b c e K:Nat}{p q r:Nat×Nat}
abbrev Yp (t:b0)(K:Nat)(p:Nat×Nat):b0:=j7 t K p.1 p.2
def Zv (t:b0)(K:Nat)(p q:Nat×Nat):Bool:=decide (jB t q=jB t p)&&!decide (Yp t K q=Yp t K p)
def gr (t:b0)(K:Nat)(p:Nat×Nat):List B4:=((yG t.length).filter (Zv t K p)).map λq=>(p,q)
def yT (t:b0)(K:Nat):List B4:=(yG t.length).flatMap (gr t K)
def bW (x:B4):W:=MJ x.1.1 x.1.2 x.2.1 x.2.2
def Lv:Option B4->W
 |none=>.non|some x=>bW x
def WJ:gr t K p=[]↔∀q∈yG t.length,Zv t K p q=false:=by
 unfold gr;rw[List.map_eq_nil_iff,List.filter_eq_nil_iff];exact⟨λh q H=>Bool.eq_false_iff.mpr (h q H),λh q H=>Bool.eq_false_iff.mp (h q H)⟩
def Kc:Zv t K p q=false↔(jB t q=jB t p->Yp t K q=Yp t K p):=by
 unfold Zv;rw[Bool.and_eq_false_iff,decide_eq_false_iff_not,Bool.not_eq_false',af]
 constructor
 ·rintro(h|h) z
  ·exact absurd z h
  ·exact h
 ·intro h
  by_cases z:jB t q=jB t p
  ·exact .inr (h z)
  ·exact .inl z
def DI (b:p∈yG t.length)(a:q∈yG t.length)(h:jB t p=jB t q)(h0:gr t K p=[]):gr t K q=[]:=by
 rw[WJ]at h0 ⊢;intro r H;rw[Kc];intro z;rw[Kc.mp (h0 r H) (z.trans h.symm),Kc.mp (h0 q a) h.symm]
def hJ:((j5 t (yG t.length)).flatMap (gr t K)).head? =(yT t K).head?:=Bw λ_ p _ H h h0=>DI p H h h0
def hL (a:c<t.length)(he:e<t.length)(h0:∀q∈pre t.length c e,Zv t K p q=false)(b:Zv t K p (c,e)=true):(gr t K p).head? =some (p,(c,e)):=by
 obtain⟨r,h⟩:=pre_split a he;unfold gr;rw[h,bB,List.filter_eq_nil_iff.mpr λq H=>Bool.eq_false_iff.mp (h0 q H),bx,a9 b]
 rfl
abbrev UZ:Ex:=zq (qS (yg (zi jd gv zt) (zi qR (zC gx (zh zj (zh qT (zh Z3 zo)))) qd)) (zq (qy (qM (zh zI (zh qg (zh qT (zh Z3 zo)))))) zx) zx) zx
abbrev KC:Ex:=zq (jT (j4 gT) (qP 7 8) UZ) zx
def Ob (ht:zX t)(hK:z9 t=(K:Int))(A:Hx):Z7 [zl t] A=.ok (Lv (yT t K).head?) A:=by
 have n8:=ht.n8;have kb:=jW ht;have D:(t.map zy).length=t.length:=ag ..;have ef:=Nh ht;generalize P:j5 t (yG t.length)=ps at ef;have hin:∀p∈ps,p.1<t.length/\p.2<t.length:=λp S=>Q3.mp (X7 (t:=t) p (by rw[P];exact S))
 have J:=hJ (t:=t) (K:=K);rw[P]at J;have go:=XT (j:=Ye (ps.map (jV t))) (st:=turn (J5 1 2 3) (zq (qe 4 (zC gx (zh zj (zh zI (zh qg zo))))) (zq (jT (j4 zj) (qP 5 6) KC) zx))) (N:=ps.length)
  (Q:=λr B=>B=[]/\∃x,(ps.flatMap (gr t K)).head? =some x/\r=bW x)
  (I:=λi ρ B=>B=[]/\(ps.take i).flatMap (gr t K)=[]/\∃U y2 y3 L n l Y y,ρ=[some (zl t),U,y2,y3,L,n,l,Y,y])
  (λi ρ B X ⟨f,o,U,y2,y3,L,n,l,Y,y,h⟩=>by
   subst f h;obtain⟨ha,hb⟩:=hin ps[i] (aS X);generalize S:ps[i]=p at ha hb;obtain⟨a,b⟩:=p;dsimp only at ha hb;have hsp:ps=ps.take i++(a,b)::ps.drop (i+1):=by
    rw[<- S,<- bb X,List.take_append_drop]
   refine⟨.tup [.int (at2 t a b),.tup [.int (a:Int),.int (b:Int)]],?_,?_⟩
   ·show some ((ps.map (jV t))[i]?.map λp=>W.tup [kW p.1,p.2])=_
    rw[av,aa X,S]
    rfl
   have hm:j4 zj [some (zl t),some (.int (at2 t a b)),some (.int (a:Int)),some (.int (b:Int)),some (zl (j7 t K a b)),n,l,Y,y] []=.ok (yu (zl t) t.length) []:=by
    have:=QS (m:=qE 0) (ρ:=[some (zl t),some (.int (at2 t a b)),some (.int (a:Int)),some (.int (b:Int)),some (zl (j7 t K a b)),n,l,Y,y]) (A:=[]) (A1:=[]) (ws:=t.map zy) (zm rfl)
    rw[D]at this;exact this
   have e1:qe 4 (zC gx (zh zj (zh zI (zh qg zo)))) [some (zl t),some (.int (at2 t a b)),some (.int (a:Int)),some (.int (b:Int)),L,n,l,Y,y] []=.ok (.nx [some (zl t),some (.int (at2 t a b)),some (.int (a:Int)),some (.int (b:Int)),some (zl (j7 t K a b)),n,l,Y,y]) []:=(qV ((qa (zG (zm rfl) (zG (zm rfl) (zG (zm rfl) zV)))).trans (XZ ht hK ha hb []))).trans rfl;have go:=XT (j:=yu (zl t) t.length) (st:=turn (qP 5 6) KC) (N:=t.length)
    (Q:=λr B=>B=[]/\∃x,(gr t K (a,b)).head? =some x/\r=bW x)
    (I:=λc ρ B=>B=[]/\(∀q∈pre t.length c 0,Zv t K (a,b) q=false)/\∃n l Y y,ρ=[some (zl t),some (.int (at2 t a b)),some (.int (a:Int)),some (.int (b:Int)),some (zl (j7 t K a b)),n,l,Y,y])
    (λc ρ B Z ⟨f,hq0,n,l,Y,y,h⟩=>by
     subst f h;have hrl:=ht.sq _ (jC Z);have T:((t.getD c []).map W.int).length=t.length:=by rw[ag,hrl]
     have hl3:(yu (.tup ((t.getD c []).map W.int)) ((t.getD c []).map W.int).length).len=t.length:=T;refine⟨.tup [.int (c:Int),zy (t.getD c [])],?_,?_⟩
     ·have:=Q9 (A:=[]) (k8 Z)
      rw[D]at this;exact this
     have go:=XT (j:=yu (.tup ((t.getD c []).map W.int)) ((t.getD c []).map W.int).length) (st:=turn (qP 7 8) UZ) (N:=t.length)
      (Q:=λr B=>B=[]/\∃x,(gr t K (a,b)).head? =some x/\r=bW x)
      (I:=λe ρ B=>B=[]/\(∀q∈pre t.length c e,Zv t K (a,b) q=false)/\∃Y y,ρ=[some (zl t),some (.int (at2 t a b)),some (.int (a:Int)),some (.int (b:Int)),some (zl (j7 t K a b)),some (.int (c:Int)),some (zy (t.getD c [])),Y,y])
      (λe ρ B he ⟨f,s,Y,y,h⟩=>by
       subst f h;refine⟨_,Q9 (int_at (by omega)),?_⟩
       generalize H:([some (zl t),some (.int (at2 t a b)),some (.int (a:Int)),some (.int (b:Int)),some (zl (j7 t K a b)),some (.int (c:Int)),some (zy (t.getD c [])),some (.int (e:Int)),some (.int (at2 t c e))]:En)=d;have ee:zi jd gv zt d []=.ok (.bl (decide (at2 t c e=at2 t a b))) []:=by subst H;exact(zS (zm rfl) (zm rfl)).trans (Yo _ _ [])
       have en:zi qR (zC gx (zh zj (zh qT (zh Z3 zo)))) qd d []=.ok (.bl (!decide (j7 t K c e=j7 t K a b))) []:=by subst H;exact(zS ((qa (zG (zm rfl) (zG (zm rfl) (zG (zm rfl) zV)))).trans (XZ ht hK Z he [])) (zm rfl)).trans (hF _ _ _)
       have E:∀g:Ex,turn (qP 7 8) g (.tup [.int (e:Int),.int ((t.getD c []).getD e 0)]) [some (zl t),some (.int (at2 t a b)),some (.int (a:Int)),some (.int (b:Int)),some (zl (j7 t K a b)),some (.int (c:Int)),some (zy (t.getD c [])),Y,y] []=g d []:=λg=>by subst H;exact kX rfl
       have u:yg (zi jd gv zt) (zi qR (zC gx (zh zj (zh qT (zh Z3 zo)))) qd) d []=.ok (.bl (Zv t K (a,b) (c,e))) []:=Mj ee en;cases v:Zv t K (a,b) (c,e) with
       |false=>
        rw[v]at u;refine .inl ⟨d,[],(E _).trans ((zP ((ye u).trans jo)).trans jo),rfl,λq' M=>?_,_,_,H.symm⟩;rw[Uk]at M;rcases List.mem_append.mp M with z|z
        ·exact s q' z
        ·rw[cC.mp z];exact v
       |true=>
        rw[v]at u;refine .inr ⟨MJ a b c e,[],(E _).trans (qN ((Jd u).trans (qN (jh ?_)))),rfl,((a,b),(c,e)),hL Z he s v,rfl⟩;subst H;exact g9 (zG (zm rfl) (zG (zm rfl) (zG (zm rfl) (zG (zm rfl) zV)))))
      (λρ B _=>by have:=Q5 (A:=B) (ws:=(t.getD c []).map W.int);rw[T]at this ⊢;exact this) t.length 0 [some (zl t),some (.int (at2 t a b)),some (.int (a:Int)),some (.int (b:Int)),some (zl (j7 t K a b)),some (.int (c:Int)),some (zy (t.getD c [])),Y,y] [] (by omega) ⟨rfl,hq0,_,_,rfl⟩
     have C:=(kU (tw:=qP 7 8) (m1:=UZ) (QS (m:=qE 6) (ρ:=[some (zl t),some (.int (at2 t a b)),some (.int (a:Int)),some (.int (b:Int)),some (zl (j7 t K a b)),some (.int (c:Int)),some (zy (t.getD c [])),Y,y]) (A:=[]) (A1:=[]) (ws:=(t.getD c []).map W.int) (zm rfl)));rw[hl3]at C;have E:turn (qP 5 6) KC (.tup [.int (c:Int),zy (t.getD c [])]) [some (zl t),some (.int (at2 t a b)),some (.int (a:Int)),some (.int (b:Int)),some (zl (j7 t K a b)),n,l,Y,y] []=KC [some (zl t),some (.int (at2 t a b)),some (.int (a:Int)),some (.int (b:Int)),some (zl (j7 t K a b)),some (.int (c:Int)),some (zy (t.getD c [])),Y,y] []:=kX rfl;rcases go with ⟨d,B,e,f,s,y7',y8',h⟩|⟨r,B,e,hQ⟩
     ·subst f h
      rw[Gh]at s;exact .inl ⟨_,[],E.trans ((zP (C.trans e)).trans jo),rfl,s,_,_,_,_,rfl⟩
     ·exact .inr ⟨r,B,E.trans (qN (C.trans e)),hQ⟩)
    (λρ B _=>by have:=Q5 (A:=B) (ws:=t.map zy);rw[D]at this;exact this) t.length 0 [some (zl t),some (.int (at2 t a b)),some (.int (a:Int)),some (.int (b:Int)),some (zl (j7 t K a b)),n,l,Y,y] [] (by omega) ⟨rfl,(λq s=>(by rw[show pre t.length 0 0=[] from rfl]at s;cases s)),_,_,_,_,rfl⟩
   have E:∀g:Ex,turn (J5 1 2 3) g (.tup [.int (at2 t a b),.tup [.int (a:Int),.int (b:Int)]]) [some (zl t),U,y2,y3,L,n,l,Y,y] []=g [some (zl t),some (.int (at2 t a b)),some (.int (a:Int)),some (.int (b:Int)),L,n,l,Y,y] []:=λg=>kX rfl;rcases go with ⟨d,B,e,f,s,y5',y6',y7',y8',h⟩|⟨r,B,e,f,x,C,hr⟩
   ·subst f h
    refine .inl ⟨_,[],(E _).trans ((zP e1).trans ((zP ((kU hm).trans e)).trans jo)),rfl,?_,_,_,_,_,_,_,_,_,rfl⟩;rw[List.take_succ,aa X,S,br,o,bx];show [(a,b)].flatMap _=_;rw[List.flatMap_singleton];exact WJ.mpr s
   ·subst f
    refine .inr ⟨r,[],(E _).trans ((zP e1).trans (qN ((kU hm).trans e))),rfl,x,?_,hr⟩;rw[hsp,br,o,bx,flatMap_cons,head?_append,C]
    rfl)
  (λρ B _=>by
   show some ((ps.map (jV t))[ps.length]?.map λp=>W.tup [kW p.1,p.2])=_;rw[aD (by rw[ag];exact ao _)]
   rfl) ps.length 0 [some (zl t),none,none,none,none,none,none,none,none] [] (by omega) ⟨rfl,rfl,_,_,_,_,_,_,_,_,rfl⟩
 have hit:Y7 (zC Jz (zh zj zo)) [some (zl t),none,none,none,none,none,none,none,none] []=.ok (Ye (ps.map (jV t))) []:=by
  unfold Y7;dsimp only;have ec:zC Jz (zh zj zo) [some (zl t),none,none,none,none,none,none,none,none] []=.ok (.ref 0) [.dct (ps.map (jV t))]:=(qa (zG (zm rfl) zV)).trans (OJ (kO t) ef rfl Ul);rw[ec,zJ];exact ah Ul
 have hlen:(Ye (ps.map (jV t))).len=ps.length:=ag ..;have w:=kU (tw:=J5 1 2 3) (m1:=zq (qe 4 (zC gx (zh zj (zh zI (zh qg zo))))) (zq (jT (j4 zj) (qP 5 6) KC) zx)) hit;rw[hlen]at w;rcases go with ⟨d,B,e,f,o,U,y2,y3,L,n,l,Y,y,h⟩|⟨r,B,e,f,x,C,rfl⟩
 ·subst f h
  rw[take_length]at o;rw[<- J,o];refine Zc (A1:=[]) (kO t) rfl (qX ?_);unfold Xh;exact(zP (w.trans e)).trans (qN (jh qW))
 ·subst f
  rw[<- J,C];refine Zc (A1:=[]) (kO t) rfl (qX ?_);unfold Xh;exact qN (w.trans e)
end
section
variable {a b e k K:Nat}{w x z:W}{S:Nat->List (b3)}
def hO (ht:zX t)(m:z9 t=(K:Int))(l:k<K):∃a b:Nat,a<t.length/\b<t.length/\at2 t a b=(k:Int)/\yi (.inl (k:Int)) ((j5 t (yG t.length)).map (jV t))=some (.tup [.int (a:Int),.int (b:Int)]):=by
 obtain⟨a,b,g,f,e⟩:=Kb ht (v:=k) (by omega)
 obtain⟨q,H,j⟩:=DA (t:=t) (a,b) (Q3.mpr ⟨g,f⟩);have h:=Vk (t:=t) (v:=(k:Int)) (j5 t (yG t.length));rw[show(j5 t (yG t.length)).any (λq=>decide (jB t q=(k:Int)))=true from List.any_eq_true.mpr ⟨q,H,aq (j.trans e)⟩]at h
 obtain⟨w,hw⟩:=Option.isSome_iff_exists.mp h;obtain⟨p,d,c⟩:=cz.mp (PK hw);obtain⟨Z,z⟩:=Q3.mp (X7 p d);unfold jV at c;injection c with E i
 injection E with E
 exact⟨p.1,p.2,Z,z,E,by rw[hw,i]⟩
def Pu (ht:zX t)(e:z9 t=(K:Int))(o:∀a b,a<t.length->b<t.length->j7 t K a b=S (at2 t a b).toNat)(A:Hx):K2 [zl t] A=.ok (.ref A.length) (A++[.lst ((List.range K).map λk=>zl (S k))]):=by
 have n8:=ht.n8;have y:=jW ht;have l:=Nh ht;have ch:∀k:Nat,∃q:Nat×Nat,k<K->q.1<t.length/\q.2<t.length/\at2 t q.1 q.2=(k:Int)/\yi (.inl (k:Int)) ((j5 t (yG t.length)).map (jV t))=some (.tup [.int (q.1:Int),.int (q.2:Int)]):=λk=>by
  by_cases j:k<K
  ·obtain⟨a,b,d,c,f,p⟩:=hO ht e j
   exact⟨(a,b),λ_=>⟨d,c,f,p⟩⟩
  ·exact⟨(0,0),λz=>absurd z j⟩
 obtain⟨fp,H⟩:=Classical.axiomOfChoice ch;have nr:=Ul (t:=t) (acc:=j5 t (yG t.length));generalize (j5 t (yG t.length)).map (jV t)=kvs at l H nr;have x:zC Jz (zh zj zo) [some (zl t),none,none] []=.ok (.ref 0) [.dct kvs]:=(qa (zG (zm rfl) zV)).trans (OJ (kO t) l rfl nr);have hm:=YO (m:=zC gY (zh zj zo)) (ρ:=[some (zl t),some (.ref 0),none]) (A:=[.dct kvs]) (A1:=[.dct kvs]) (k:=(K:Int)) ((qa (zG (zm rfl) zV)).trans ((JW ht _).trans (by rw[e]))) (gC (by omega))
 rw[aG]at hm;have s:=wN (cap:=[1]) (me:=zi Q8 zt zj) (ρ:=[some (zl t),some (.ref 0),none]) (A:=[.dct kvs]) (N:=K) (item:=λi=>.int (0+(i:Int))) (g:=λk=>.tup [.int ((fp k).1:Int),.int ((fp k).2:Int)]) hm rfl (by unfold zQ;omega) (λi h=>Qm h) (Qg (by omega)) (λi h=>by
  refine(zS (zm (i:=1) (w:=.ref 0) rfl) (zm (i:=0) (w:=.int (0+(i:Int))) rfl)).trans ?_;rw[Int.zero_add];show(match yi (.inl (i:Int)) kvs with|some w=>R.ok w [.dct kvs]|none=>.bad)=_
  rw[(H i h).2.2.2])
 have E:=yN s;have r:=HN (A:=[.dct kvs]++[.lst ((List.range K).map λk=>.tup [.int ((fp k).1:Int),.int ((fp k).2:Int)])]) (cap:=[0]) (ρ:=[some (zl t),some (.ref 0),some (.ref 1)]) (me:=zC gx (zh zI (zh zj (zh zt zo)))) (mi:=zN zI) (N:=K) (u:=λk=>.int ((fp k).1:Int)) (v:=λk=>.int ((fp k).2:Int)) (g:=λk=>zl (S k)) (wU (n:=1) (zm rfl) rfl) (by show((List.range K).map _).length=K;rw[ag,aE]) (by omega)
  (λi h=>ZK (n:=1) rfl (by rw[av,a6 h];rfl))
  (ZL (n:=1) rfl (by rw[ag,aE];exact ao _))
  (λi h=>by
   obtain⟨d,c,f,_⟩:=H i h;refine(qa (ws:=[zl t,.int ((fp i).1:Int),.int ((fp i).2:Int)]) (zG (zm rfl) (zG (zm rfl) (zG (zm rfl) zV)))).trans ((XZ ht e d c _).trans ?_);rw[o _ _ d c,f,aG])
 refine JV (k:=2) (A1:=[.dct kvs]++[.lst ((List.range K).map λk=>.tup [.int ((fp k).1:Int),.int ((fp k).2:Int)])]++[.lst ((List.range K).map λk=>zl (S k))]) (kO t) (qX ?_) rfl (JS (λ_=>QZ _) _);unfold Si;exact(zP (qV x)).trans ((zP (qV E)).trans (qN (jh (yN r))))
def BF:yT t K=[]↔∀p∈yG t.length,∀q∈yG t.length,jB t q=jB t p->Yp t K q=Yp t K p:=by
 unfold yT;rw[List.flatMap_eq_nil_iff];exact⟨λh p a q H=>Kc.mp (WJ.mp (h p a) q H),λh p a=>WJ.mpr λq H=>Kc.mpr (h p a q H)⟩
def YS (ht:zX t)(s:wY t):yT t K=[]:=BF.mpr λp H q h e=>Oq ht s (Q3.mp h).1 (Q3.mp h).2 (Q3.mp H).1 (Q3.mp H).2 e
def PV (ht:zX t)(h:z9 t=(K:Int))(s:yT t K=[])(A:Hx):Z7 [zl t] A=.ok .non A:=(Ob ht h A).trans (by rw[s];rfl)
def VP (ht:zX t)(h:z9 t=(K:Int))(s:yT t K=[])(A:Hx):Ju [zl t] A=.ok .non A:=by
 unfold Ju Xa;refine Vs (ρ:=[some (zl t)]) ?_;unfold TH;exact(zP (wy ((qa (zG (zm rfl) zV)).trans (JG ht A)))).trans ((zP ((ye ((zS ((qa (zG (zm rfl) zV)).trans (PV ht h s A)) qW).trans rfl)).trans jo)).trans jo)
def NI (ht:zX t)(h:z9 t=(K:Int))(s:yT t K=[])(A:Hx):Wd [zl t] A=.ok (.bl true) A:=by
 refine Zc (A1:=[]) (kO t) rfl (qX ?_);unfold Rc;exact(zP (wy ((qa (zG (zm rfl) zV)).trans (JG ht [])))).trans (qN (jh ((zS ((qa (zG (zm rfl) zV)).trans (PV ht h s [])) qW).trans rfl)))
def Vz (ht:zX t)(h:z9 t=(K:Int))(A:Hx):gZ [zl t] A=.ok (.int (K:Int)) A:=by
 refine Zc (A1:=[]) (kO t) rfl (qX ?_);unfold SR;exact(zP (wy ((qa (zG (zm rfl) zV)).trans (JG ht [])))).trans (qN (jh ((qa (zG (zm rfl) zV)).trans ((JW ht []).trans (by rw[h])))))
theorem NG (v:Int):∀(r:b3)(n:Nat),Jf (.int v) (r.map W.int) n=n+r.count v
 |[],_=>rfl|x::r,n=>by
  show Jf (.int v) (r.map W.int) (if (x==v)=true then n+1 else n)=_;rw[NG v r,List.count_cons]
  by_cases h:x=v
  ·subst h
   simp;omega
  ·simp[h]
noncomputable def jw (t:b0)(K:Nat):b3:=(List.range K).map λ(k:Nat)=>(((t.getD 0 []).count (k:Int):Nat):Int)
def Vi (ht:zX t)(H:z9 t=(K:Int))(s:yT t K=[])(A:Hx):Q0 [zl t] A=.ok (.ref A.length) (A++[.lst ((jw t K).map W.int)]):=by
 have c:=jW ht;have n1:=ht.n1;have hm:=YO (m:=zC gY (zh zj zo)) (ρ:=[some (zl t)]) (A:=[]) (A1:=[]) (k:=(K:Int)) ((qa (zG (zm rfl) zV)).trans ((JW ht _).trans (by rw[H]))) (gC (by omega))
 rw[aG]at hm;have E:=wN (cap:=[0]) (me:=W5 Y5 (zi zM zt qp) zj) (ρ:=[some (zl t)]) (A:=[]) (N:=K) (item:=λi=>.int (0+(i:Int))) (g:=λk=>.int (((t.getD 0 []).count (k:Int):Nat):Int)) hm rfl (by unfold zQ;omega) (λi h=>Qm h) (Qg (by omega)) (λi h=>by
  have e:zi zM zt qp (some (W.int (0+(i:Int)))::[0].map λi=>([some (zl t)][i]?).join) []=.ok (.tup ((t.getD 0 []).map W.int)) []:=(zS (zm (w:=zl t) rfl) qW).trans (J6 (a:=0) n1);unfold W5;rw[e,zJ];dsimp only;rw[show zj (some (W.int (0+(i:Int)))::[0].map λi=>([some (zl t)][i]?).join) []=.ok (.int (0+(i:Int))) [] from zm rfl,zJ,Int.zero_add]
  unfold Y5;dsimp only;rw[ah,NG,zero_add];show(true&&((t.getD 0 []).map W.int).all yo)=true;rw[Bool.true_and,aX];intro w hw;obtain⟨v,_,rfl⟩:=cz.mp hw
  rfl)
 have b:((List.range K).map λ(k:Nat)=>W.int (((t.getD 0 []).count (k:Int):Nat):Int))=(jw t K).map W.int:=by unfold jw;rw[aI];rfl
 rw[b]at E;have e:Xo [zl t] []=.ok (.ref 0) [.lst ((jw t K).map W.int)]:=JV (A:=[]) (k:=0) (A1:=[.lst ((jw t K).map W.int)]) (kO t) (qX (by unfold Sj;exact qN (jh (yN E)))) rfl (JS (λ_=>rfl) _)
 refine JV (k:=0) (A1:=[.lst ((jw t K).map W.int)]) (kO t) (qX ?_) rfl (JS (λ_=>rfl) _);unfold O8;exact(zP (wy ((qa (zG (zm rfl) zV)).trans (VP ht H s [])))).trans (qN (jh ((qa (zG (zm rfl) zV)).trans e)))
end
def Kk (r:R W):Option (List (b0)):=match r with
 |.ok (.ref n) A=>match A[n]? with
  |some (.lst us)=>Zm A us|_=>none
 |_=>none
abbrev pO (p:b0):O:=.lst (p.map zO)
theorem R1:∀{qs:List (Nat×List W)}{m:Nat}{L:List (b0)},(∀i,i<qs.length->A[m+i]? =some (.lst (qs.getD i (0,[])).2))->Zm A ((List.range' m qs.length).map W.ref)=some L->qs.map (λq=>O.lst q.2)=L.map pO
 |[],_,_,_,h=>by cases h;rfl|q::qs,m,L,H,h=>by
  have h0:A[m]? =some (.lst q.2):=H 0 (zero_lt_succ _);rw[aN,bK,aF]at h;unfold Zm at h;rw[h0]at h;dsimp only at h
  split at h
  ·rename_i ks r E e
   cases h
   have:=R1 (qs:=qs) (m:=m+1) (λi a=>by
    have:=H (i+1) (by simpa using a)
    rw[show m+(i+1)=m+1+i by omega]at this
    simpa using this) e
   rw[aF,aF,this,Vx E]
  ·cases h
def Bb {f:Fn}{L:List (b0)}(h:Kk (wH f ws [])=some L)(A:Hx):wH f ws A=.ok (.ref (A.length+L.length)) (A++L.map pO++[yQ A.length L.length]):=by
 unfold wH at h ⊢
 by_cases hn:qH ws=true
 ·rw[ah hn]at h ⊢
  cases hf:f ws [] with
  |ok w A1=>
   rw[hf]at h;cases w with
   |ref n=>
    dsimp only at h ⊢;cases hm:A1[n]? with
    |none=>rw[hm]at h;cases h|some o=>cases o with
     |lst rs=>
      rw[hm]at h;dsimp only at h ⊢;cases hi:Zj A1 rs with
      |none=>rw[hi]at h;cases h|some qs=>
       rw[hi]at h;dsimp only at h ⊢
       by_cases nd:(qs.map (·.1)).Nodup
       ·rw[ah nd]at h ⊢
        have e:qs.map (λq=>O.lst q.2)=L.map pO:=by
         unfold Kk at h;dsimp only at h;rw[show([]++qs.map (λp=>O.lst p.2)++[yQ ([]:Hx).length qs.length])[([]:Hx).length+qs.length]? =some (yQ 0 qs.length) by
          rw[bx,ar (by simp)]
          simp]at h
         unfold yQ at h;dsimp only at h;refine R1 (A:=[]++qs.map (λp=>O.lst p.2)++[yQ 0 qs.length]) (m:=0) (λi hi=>?_) (by rw[<- bC];simpa[yQ] using h)
         rw[bx,zero_add,ai (by simpa using hi),av,ab,aa hi]
         rfl
        have E:qs.length=L.length:=by have:=congrArg List.length e;simpa using this
        rw[e,E]
       ·rw[aj nd]at h;cases h
     |_=>rw[hm]at h;cases h
   |_=>cases h
  |exc y A1=>rw[hf]at h;cases h|bad=>rw[hf]at h;cases h
 ·rw[aj hn]at h;cases h
noncomputable def hU (k:Int)(L:List (b0)):List (b0):=L.map (·++[[k]])++L.flatMap λp=>(List.range p.length).map λi=>p.take i++[p.getD i []++[k]]++p.drop (i+1)
def PL:Nat->List (b0)
 |0=>[[]]|1=>[[]]|n+2=>hU ((n+1:Nat):Int) (PL (n+1))
noncomputable def jm (K:Nat)(p:b0):b3:=(p.zipIdx 1).foldl (λl q=>q.1.foldl (λl k=>l.set k.toNat (q.2:Int)) l) (List.replicate K 0)
def Jo (p:b0):List (Key×W):=(p.zipIdx 1).foldl (λd q=>q.1.foldl (λd k=>kM d (.inl k) (.int (q.2:Int))) d) [(.inl 0,.int 0)]
def M9 (d:List (Key×W))(k:Int):cf:=match yi (.inl k) d with
 |some (.int v)=>some v|_=>none
def GS (K:Nat)(p:b0):Bool:=(jm K p).length==K&&(p.all λq=>decide (q.length<=8)&&q.all λk=>decide (1<=k)&&decide (k<(K:Int)))&&decide (p.length<K)&&
 ((List.range K).all λk=>(decide ((jm K p).getD k 0=0)==decide (k=0))&&decide (0<=(jm K p).getD k 0)&&decide ((jm K p).getD k 0<=p.length)&&M9 (Jo p) k==some ((jm K p).getD k 0))&&((List.range (p.length+1)).all λv=>(jm K p).contains (v:Int))
def hV:((List.range 5).all λk=>Kk (QN [.int ((k+1:Nat):Int)] [])==some (PL (k+1)))=true:=by decide +kernel
def hX:Kk (QN [.int 6] [])=some (PL 6):=by decide +kernel
def hY:((List.range 6).all λk=>decide (PL (k+1)).Nodup&&decide ((PL (k+1)).length<64)&&(PL (k+1)).all (GS (k+1)))=true:=by decide +kernel
noncomputable def jf (t:b0)(l:b3):b0:=t.map λr=>r.map λv=>l.getD v.toNat 0
structure QI (K:Nat)(p:b0):Prop where
 len:(jm K p).length=K
 part:∀q∈p,q.length<=8/\∀k∈q,1<=k/\k<(K:Int)
 few:p.length<K
 zero:∀k,k<K->((jm K p).getD k 0=0↔k=0)
 lo:∀k,k<K->0<=(jm K p).getD k 0/\(jm K p).getD k 0<=p.length
 val:∀k,k<K->yi (.inl (k:Int)) (Jo p)=some (.int ((jm K p).getD k 0))
 all:∀v,v<=p.length->∃k,k<K/\(jm K p).getD k 0=(v:Int)
def ND {K:Nat}{p:b0}(h:GS K p=true):QI K p:=by
 unfold GS at h;simp only[ak,aX,af,aV,bA,List.contains_iff_mem]at h;obtain⟨⟨⟨⟨g,c⟩,f⟩,a⟩,d⟩:=h;refine⟨g,λq b=>⟨(c q b).1,λk H=>(c q b).2 k H⟩,f,λk H=>?_,λk H=>⟨(a k H).1.1.2,(a k H).1.2⟩,λk H=>?_,λv i=>?_⟩
 ·have:=(a k H).1.1.1
  rw[decide_eq_decide]at this;exact this
 ·have:=(a k H).2
  unfold M9 at this
  split at this
  ·rename_i v e
   rw[e];cases this
   rfl
  ·cases this
 ·have:=d v (by omega)
  obtain⟨k,H,e⟩:=aW this;exact⟨k,by omega,by rw[ab,aa H,e];rfl⟩
section
variable {B C:Hx}{a b c e k K d:Nat}{w:W}{p:b0}
def Q4 (ht:zX t)(h:a<t.length)(c:b<t.length):at2 (jf t l) a b=l.getD (at2 t a b).toNat 0:=by
 have H:=ht.sq _ (jC h);unfold at2 jf;rw[ab,ab,av,aa h];have e:t.getD a []=t[a]:=by rw[ab,aa h];rfl
 rw[e]at H ⊢;show((t[a].map _)[b]?).getD 0=_;rw[av,aa (by omega),ab (l:=t[a]),aa (by omega)]
 rfl
def YN (ht:zX t)(c:z9 t=(K:Int))(H:a<t.length)(h:b<t.length):(at2 t a b).toNat<K/\((at2 t a b).toNat:Int)=at2 t a b:=⟨(kZ ht c H h).2,(kZ ht c H h).1⟩
def DH {m:Nat}(ht:zX t)(j:z9 t=(K:Int))(w:m<K)(hzero:∀k,k<K->(l.getD k 0=0↔k=0))(o:∀k,k<K->0<=l.getD k 0/\l.getD k 0<=(m:Int))(i:∀v,v<=m->∃k,k<K/\l.getD k 0=(v:Int)):zX (jf t l)/\z9 (jf t l)=((m+1:Nat):Int):=by
 have A:=N1 ht;have hlen:(jf t l).length=t.length:=ag ..;have f:∀r∈jf t l,r.length=(jf t l).length:=λr p=>by
  obtain⟨q,x,rfl⟩:=cz.mp p;rw[ag,hlen];exact ht.sq q x
 have g:∀v∈(jf t l).flatten,∃a b,a<t.length/\b<t.length/\v=l.getD (at2 t a b).toNat 0:=λv d=>by
  obtain⟨a,b,H,h,e⟩:=WQ f d;rw[hlen]at H h;exact⟨a,b,H,h,by rw[<- e,Q4 ht H h]⟩
 have n:∀v,v<=m->∃a b,a<t.length/\b<t.length/\at2 (jf t l) a b=(v:Int):=λv d=>by
  obtain⟨k,B,e⟩:=i v d;obtain⟨a,b,H,h,E⟩:=Kb ht (v:=k) (by omega)
  exact⟨a,b,H,h,by rw[Q4 ht H h,E,aG,e]⟩
 have T:zX (jf t l):=by
  refine⟨by rw[hlen];exact ht.n1,by rw[hlen];exact ht.n8,f,λr p v d=>?_,λa b H h=>?_,λa b H h=>?_,λk ⟨v,d,y⟩=>?_⟩
  ·obtain⟨a,b,H,h,rfl⟩:=g v (List.mem_flatten.mpr ⟨r,p,d⟩)
   have:=o _ (YN ht j H h).1
   rw[hlen];omega
  ·rw[hlen]at H h
   rw[Q4 ht H h,hzero _ (YN ht j H h).1,<- ht.dg a b H h]
   have:=(YN ht j H h).2
   omega
  ·rw[hlen]at H h
   rw[Q4 ht H h,Q4 ht h H,ht.sy a b H h]
  ·obtain⟨a,b,H,h,rfl⟩:=g v d
   have:=o _ (YN ht j H h).1
   obtain⟨c,e,s,he,u⟩:=n k (by omega)
   obtain⟨r,p,_,hm⟩:=Ow f (a:=c) (b:=e) (by rw[hlen];exact s) (by rw[hlen];exact he)
   rw[u]at hm;exact hm
 refine⟨T,?_⟩;obtain⟨a,b,H,h,u⟩:=g _ (Y1 T);have C:=o _ (YN ht j H h).1;obtain⟨c,e,s,he,E⟩:=n m (ao _);have z:=JY T (a:=c) (b:=e) (by rw[hlen];exact s) (by rw[hlen];exact he)
 rw[E]at z;omega
def YV (ht:zX t)(H:z9 t=(K:Int))(h:QI K p):zX (jf t (jm K p))/\z9 (jf t (jm K p))=((p.length+1:Nat):Int):=DH ht H h.few h.zero h.lo h.all
def AE (d:List (Key×W))(k:Key)(v:W):(kM d k v).length<=d.length+1:=by
 unfold kM
 split
 ·rw[ag];omega
 ·rw[aB];exact ao _
def UP (d:List (Key×W))(q:List Int×Nat):List (Key×W):=q.1.foldl (λd k=>kM d (.inl k) (.int (q.2:Int))) d
def Wo {β:Type}{f:β->α->β}{l:List α}{x:β}(h:i<l.length):(l.take (i+1)).foldl f x=f ((l.take i).foldl f x) l[i]:=by
 rw[List.take_succ,aa h,foldl_append]
 rfl
def Bm {kvs:List (Key×W)}{k:Int}{v:W}(h:A[d]? =some (.dct kvs))(H:kvs.length<1000):Zi (.ref d) (.int k) v A=.ok () (A.set d (.dct (kM kvs (.inl k) v))):=by
 unfold Zi;show(match A[d]? with|some (.dct kvs)=>if kvs.length<zQ then R.ok () (A.set d (.dct (kM kvs (.inl k) v))) else .bad|_=>.bad)=_
 rw[h];dsimp only;rw[ah (by unfold zQ;omega)]
def Of {o':O}:(B++[o]).set B.length o'=B++[o']:=by rw[List.set_append_right _ _ (ao _),Nat.sub_self];rfl
def E3 {g:W->W->W->Hx->R Unit}{mo mi:Ev}{A2 b a:Hx}{v o j:W}(d:m ρ A=.ok v A1)(c:mo ρ A1=.ok o A2)(H:mi ρ A2=.ok j b)(h:g o j v b=.ok () a):wV g m mo mi ρ A=.ok (.nx ρ) a:=by
 unfold wV;rw[d,zJ,c,zJ,H,zJ,h]
 rfl
def ON {q:b3}(h:m ρ A=.ok (zO q) A):zN m ρ A=.ok ⟨λA i=>(zW (zO q) A).map λws=>ws[i]?,q.length⟩ A:=by
 have:=Qj (m:=m) (ρ:=ρ) (A:=A) (ws:=q.map W.int) h
 rw[ag]at this;exact this
abbrev Ll:Ex:=zq (jT (zN qd) (zD 5) (zq (wV Zi qg zI qT) zx)) zx
def Cs (o:B[i]? =some (pO p))(J:p.length<=8)(u:∀q∈p,q.length<=8):∃y3 Y y,jT (WY (qE 1)) (qP 3 4) Ll [some (zl t),some (.ref i),some (.ref B.length),none,none,none] (B++[.dct [(.inl 0,.int 0)]])=.ok (.nx [some (zl t),some (.ref i),some (.ref B.length),y3,Y,y]) (B++[.dct (Jo p)]):=by
 have D:i<B.length:=ZC o;have z:(p.zipIdx 1).length=p.length:=List.length_zipIdx;have a:∀X:O,(B++[X])[i]? =some (pO p):=λX=>qZ o;have H:∀X:O,zW (.ref i) (B++[X])=some (p.map zO):=λX=>by unfold zW;dsimp only;rw[a X]
 obtain⟨n,x,e,l,y3,Y,y,h⟩:=Qa (j:=Jc (.ref i) p.length) (st:=turn (qP 3 4) Ll) (N:=p.length)
  (I:=λj ρ C=>(C=B++[.dct (((p.zipIdx 1).take j).foldl UP [(.inl 0,.int 0)])]/\(((p.zipIdx 1).take j).foldl UP [(.inl 0,.int 0)]).length<=1+8 * j)/\∃y3 Y y,ρ=[some (zl t),some (.ref i),some (.ref B.length),y3,Y,y])
  (λj ρ C c ⟨⟨g,v⟩,y3,Y,y,h⟩=>by
   subst g h;generalize f:((p.zipIdx 1).take j).foldl UP [(.inl 0,.int 0)]=d0 at v;have s:=u _ (aS c);have E:(p.zipIdx 1)[j]'(by rw[z];exact c)=(p[j],j+1):=by simp[add_comm]
   obtain⟨n,x,e,⟨l,b⟩,r,h⟩:=Qa (j:=⟨λA i=>(zW (zO p[j]) A).map λws=>ws[i]?,p[j].length⟩) (st:=turn (zD 5) (zq (wV Zi (qE 3) (qE 2) (qE 5)) zx)) (N:=p[j].length)
    (I:=λm ρ C=>(C=B++[.dct ((p[j].take m).foldl (λd k=>kM d (.inl k) (.int ((j+1:Nat):Int))) d0)]/\((p[j].take m).foldl (λd k=>kM d (.inl k) (.int ((j+1:Nat):Int))) d0).length<=d0.length+m)/\∃y,ρ=[some (zl t),some (.ref i),some (.ref B.length),some (.int ((j+1:Nat):Int)),some (zO p[j]),y])
    (λm ρ C hm ⟨⟨g,b⟩,y,h⟩=>by
     subst g h;refine⟨.int p[j][m],[some (zl t),some (.ref i),some (.ref B.length),some (.int ((j+1:Nat):Int)),some (zO p[j]),some (.int p[j][m])],_,?_,(kX (ρ1:=[some (zl t),some (.ref i),some (.ref B.length),some (.int ((j+1:Nat):Int)),some (zO p[j]),some (.int p[j][m])]) rfl).trans ((zP (E3 (zm rfl) (zm rfl) (zm rfl) (Bm qI (by omega)))).trans jo),⟨?_,?_⟩,_,rfl⟩
     ·show some ((p[j].map W.int)[m]?)=_
      rw[av,aa hm]
      rfl
     ·rw[Of,Wo hm]
     ·rw[Wo hm]
      have:=AE ((p[j].take m).foldl (λd k=>kM d (.inl k) (.int ((j+1:Nat):Int))) d0) (.inl p[j][m]) (.int ((j+1:Nat):Int))
      omega)
    (λρ C _=>by
     show some ((p[j].map W.int)[p[j].length]?)=_;rw[aD (by rw[ag];exact ao _)]) p[j].length 0 [some (zl t),some (.ref i),some (.ref B.length),some (.int ((j+1:Nat):Int)),some (zO p[j]),y] (B++[.dct d0]) (by omega) ⟨⟨rfl,by simp⟩,_,rfl⟩
   rw[take_length]at l b;subst l h;have hit:=ON (q:=p[j]) (m:=qE 4) (ρ:=[some (zl t),some (.ref i),some (.ref B.length),some (.int ((j+1:Nat):Int)),some (zO p[j]),y]) (A:=B++[.dct d0]) (zm rfl);refine⟨.tup [.int ((j+1:Nat):Int),zO p[j]],_,_,?_,(kX (ρ1:=[some (zl t),some (.ref i),some (.ref B.length),some (.int ((j+1:Nat):Int)),some (zO p[j]),y]) rfl).trans ((zP ((kU hit).trans e)).trans jo),⟨?_,?_⟩,_,_,_,rfl⟩
   ·unfold Jc
    dsimp only;rw[H];dsimp only;unfold atEnd;rw[av,aa c]
    rfl
   ·rw[Wo (by rw[z];exact c),f,E]
    rfl
   ·rw[Wo (by rw[z];exact c),f,E]
    show List.length (p[j].foldl (λd k=>kM d (.inl k) (.int ((j+1:Nat):Int))) d0)<=_;omega)
  (λρ C ⟨⟨g,_⟩,_⟩=>by
   subst g;unfold Jc;dsimp only;rw[H];dsimp only;unfold atEnd;rw[aD (by rw[ag];exact ao _)]
   dsimp only;rw[ah (ag ..)]) p.length 0 [some (zl t),some (.ref i),some (.ref B.length),none,none,none] (B++[.dct [(.inl 0,.int 0)]]) (by omega) ⟨⟨rfl,by simp⟩,_,_,_,rfl⟩
 subst h;refine⟨y3,Y,y,(kU (j:=Jc (.ref i) p.length) ?_).trans (e.trans ?_)⟩
 ·unfold WY
  rw[zm (w:=.ref i) rfl,zJ];rw[H];show R.ok (Jc (.ref i) (p.map zO).length) _=_;rw[ag]
 ·rw[l.1,List.take_of_length_le (by rw[z];exact ao _)]
  rfl
def hZ {I:Nat}{cs ds:b7}(ht:zX t)(h0:ρ[I]? =some (some (zl t)))(e:∀(r:b3)(v:Nat),(v:Int)<z9 t->me (some (.int (v:Int))::ds.map λi=>((some (zy r)::cs.map λi=>(ρ[i]?).join)[i]?).join) A=.ok (.int (l.getD v 0)) A):
  mQ jK (zH 1 cs (zN (qE I)) (zD 0) zT (zF (mQ jK (zH 1 ds (zN zj) (zD 0) zT (zF me))))) ρ A=.ok (zl (jf t l)) A:=by
 have n8:=ht.n8;have E:=QW (cap:=cs) (A:=A) (ρ:=ρ) (ws:=t.map zy) (me:=mQ jK (zH 1 ds (zN zj) (zD 0) zT (zF me))) (g:=λw=>match w with|.tup ws=>.tup (ws.map λw=>match w with|.int v=>.int (l.getD v.toNat 0)|_=>.non)|_=>.non) (zm h0) (by rw[ag];unfold zQ;omega) (λw hw=>by
  obtain⟨r,H,rfl⟩:=cz.mp hw;have c:=ht.sq r H;exact gJ (QW (cap:=ds) (ws:=r.map W.int) (me:=me) (g:=λw=>match w with|.int v=>.int (l.getD v.toNat 0)|_=>.non) (zm (i:=0) rfl) (by rw[ag];unfold zQ;omega) (λw hw=>by
   obtain⟨v,a,rfl⟩:=cz.mp hw;have b:=ht.lo r H v a;have h:v<z9 t:=by
    have f:=WR a;have d:=WR (cz.mpr ⟨r,H,rfl⟩:kG r∈t.map kG);unfold z9;omega
   obtain⟨k,rfl⟩:=bg b.1;exact e r k h)))
 refine(gJ E).trans ?_;rw[aI];unfold zl jf;rw[aI]
 congr 2
 refine aL λr _=>?_;show W.tup ((r.map W.int).map _)=zy _;unfold zy;rw[aI,aI]
 rfl
def h9 (ht:zX t)(a:z9 t=(K:Int))(h:QI K p)(hd:A[d]? =some (.dct (Jo p))):Wc [zl t,.ref d] A=.ok (zl (jf t (jm K p))) A:=by
 unfold Wc XC;refine qX ?_;unfold Ro;refine qN (jh (hZ ht rfl λ_ k H=>?_));refine(zS (zm (i:=1) rfl) (zm (i:=0) rfl)).trans ?_;show Q8 (.ref d) (.int (k:Int)) A=_;unfold Q8;show(match A[d]? with|some (.dct kvs)=>(match yi (.inl (k:Int)) kvs with|some w=>R.ok w A|none=>.bad)|_=>.bad)=_
 rw[hd];dsimp only;rw[h.val k (by omega)]
def O5 (ht:zX t)(c:z9 t=(K:Int))(h:QI K p)(b:A[i]? =some (pO p)):JT [zl t,.ref i] A=.ok (zl (jf t (jm K p))) (A++[.dct (Jo p)]):=by
 have d:=jW ht;have H:=h.few;obtain⟨y3,Y,y,e⟩:=Cs (t:=t) b (by omega) (λq a=>(h.part q a).1)
 unfold JT Vu;refine qX ?_;unfold Nn;have E:GR (qi (.int 0)) (qi (.int 0)) [some (zl t),some (.ref i),none,none,none,none] A=.ok (.ref A.length) (A++[.dct [(.inl 0,.int 0)]]):=by
  unfold GR;rw[qW,zJ,qW,zJ];show(match some (Sum.inl 0:Key),(A++[O.dct []])[A.length]? with|some k,some (.dct [])=>R.ok (W.ref A.length) ((A++[O.dct []]).set A.length (.dct [(k,.int 0)]))|_,_=>.bad)=_
  rw[qI];show R.ok (W.ref A.length) ((A++[O.dct []]).set A.length (.dct [(.inl 0,.int 0)]))=_;rw[Of]
 refine(zP (qV E)).trans ((zP e).trans (qN (jh ((qa (zG (zm rfl) (zG (zm rfl) zV))).trans (h9 ht c h qI)))))
end
noncomputable abbrev Pg:=b0
section
variable {B C:Hx}{e k K m:Nat}{w:W}{p:Pg}{L:List Pg}{q:Pg->Bool}
def ia (H:1<=K)(h:K<=6):Kk (QN [.int (K:Int)] [])=some (PL K):=by
 by_cases e:K=6
 ·subst e;exact hX
 ·have:=cB.mp hV (K-1) (cx.mpr (by omega))
  rw[show K-1+1=K by omega]at this
  exact aV.mp this
def Uc (a:1<=K)(H:K<=6):(PL K).Nodup/\(PL K).length<64/\∀p∈PL K,QI K p:=by
 have:=cB.mp hY (K-1) (cx.mpr (by omega))
 rw[show K-1+1=K by omega,ak,ak,af,af]at this
 exact⟨this.1.1,this.1.2,λp h=>ND (cB.mp this.2 p h)⟩
def FZ:(((List.range L.length).filter λi=>q (L.getD i [])).map λi=>L.getD i [])=L.filter q:=by
 have h:L=(List.range L.length).map λi=>L.getD i []:=(Je L).symm
 conv=>rhs;rw[h]
 rw[filter_map]
 rfl
structure Ls (L:List Pg)(a0 r:Nat)(C:Hx):Prop where
 r:C[r]? =some (yQ a0 L.length)
 at_:∀i,i<L.length->C[a0+i]? =some (pO (L.getD i []))
def Ls.mono {a0 r:Nat}(h:Ls L a0 r A)(x:Ext A B):Ls L a0 r B:=⟨x.at h.r,λi H=>x.at (h.at_ i H)⟩
def Ls.new:Ls L A.length (A.length+L.length) (A++L.map pO++[yQ A.length L.length]):=by
 refine⟨?_,λi h=>?_⟩
 ·rw[ar (by simp)]
  simp
 ·rw[aU,ar (by omega),show A.length+i-A.length=i by omega,ai (by simpa using h),av,ab,aa h]
  rfl
def OE {a0 r:Nat}{ifs:Ev}(h:Ls L a0 r C)(j:L.length<1000)(hm:mi ρ A=.ok ⟨λA i=>(zW (.ref r) A).map λws=>ws[i]?,L.length⟩ C)
  (f:∀i B,i<L.length->Ext C B->∃b,ifs (some (.ref (a0+i))::cap.map λi=>(ρ[i]?).join) B=.ok (.bl (q (L.getD i []))) b/\Ext B b):
  ∃B,zH 1 cap mi (zD 0) ifs (zF zj) ρ A=.ok (((List.range L.length).filter λi=>q (L.getD i [])).map λi=>W.ref (a0+i)) B/\Ext C B:=by
 obtain⟨a,acc,B,e,_,H,x⟩:=YA (nl:=1) (cap:=cap) (mi:=mi) (ρ:=ρ) (A:=A) (A1:=C) (tw:=zD 0) (ifs:=ifs) (em:=zF zj) (N:=L.length)
  (I:=λi a acc B=>(∃y,a=y::cap.map λi=>(ρ[i]?).join)/\acc=((List.range i).filter λi=>q (L.getD i [])).map (λi=>W.ref (a0+i))/\Ext C B) hm rfl
  (λi a acc B g ⟨⟨y,d⟩,H,x⟩=>by
   subst d H;obtain⟨b,e,X⟩:=f i B g x;have hw:((zW (.ref r) B).map λws=>ws[i]?)=some (some (W.ref (a0+i))):=ZK (x.at h.r) (by rw[av,a6 g];rfl)
   have hlen:(((List.range i).filter λi=>q (L.getD i [])).map (λi=>W.ref (a0+i))).length<zQ:=by
    rw[ag]
    have:=bo (λi=>q (L.getD i [])) (List.range i)
    rw[aE]at this;unfold zQ;omega
   refine⟨W.ref (a0+i),some (.ref (a0+i))::cap.map (λi=>(ρ[i]?).join),hw,rfl,?_⟩;rw[bf,bB,aQ];cases c:q (L.getD i []) with
   |true=>
    rw[c]at e;refine .inl ⟨b,_,_,b,e,JL (zm rfl) hlen,⟨_,rfl⟩,?_,x.trans X⟩;rw[show([i].filter λi=>q (L.getD i []))=[i] from a9 (p:=λi=>q (L.getD i [])) c]
    rfl
   |false=>
    rw[c]at e;refine .inr ⟨b,e,⟨_,rfl⟩,?_,x.trans X⟩;rw[show([i].filter λi=>q (L.getD i []))=[] from bF (p:=λi=>q (L.getD i [])) (by rw[c];intro z;cases z)]
    simp)
  (λa acc B ⟨_,_,x⟩=>ZL (x.at h.r) (by simp)) ⟨⟨none,rfl⟩,rfl,Ext.refl⟩
 subst H;exact⟨B,e,x⟩
def O4 {a0 r:Nat}{f:Ev}(h:f ρ A=.ok (.ref r) C)(H:C[r]? =some (yQ a0 m)):zN f ρ A=.ok ⟨λA i=>(zW (.ref r) A).map λws=>ws[i]?,m⟩ C:=by
 have:=wU h (show C[r]? =some (.lst ((List.range m).map λi=>W.ref (a0+i))) from H)
 rw[ag,aE]at this;exact this
def ib (p:Pg):Jk (p.map zO)=some p:=by
 induction p with
 |nil=>rfl|cons x p i=>
  have h:intsOf (x.map W.int)=some x:=by
   clear i
   induction x with
   |nil=>rfl|cons v x i=>rw[aF,intsOf,i]
  rw[aF];unfold zO Jk;rw[h,show Jk (p.map λk=>W.tup (k.map W.int))=some p from i]
theorem O2 {a0:Nat}:∀{is:b7},(∀i∈is,A[a0+i]? =some (pO (L.getD i [])))->Zm A (is.map λi=>W.ref (a0+i))=some (is.map λi=>L.getD i [])
 |[],_=>rfl|i::is,h=>by
  rw[aF];unfold Zm;rw[h i (ay ..)];dsimp only;rw[ib,O2 λj H=>h j (aw _ H)]
  rfl
def Bi {f:Fn}{rs:List W}{P:List (Nat×List W)}(hn:qH ws=true)(h:f ws []=.ok (.ref n) A1)(a:A1[n]? =some (.lst rs))(H:Zj A1 rs=some P)(nd:(P.map (·.1)).Nodup)(A:Hx):
  wH f ws A=.ok (.ref (A.length+P.length)) (A++P.map (λp=>O.lst p.2)++[yQ A.length P.length]):=by
 unfold wH;rw[ah hn,h];dsimp only;rw[a];dsimp only;rw[H];dsimp only;rw[ah nd]
def W7 (p:Pg):qH (p.map zO)=true:=by
 induction p with
 |nil=>rfl|cons x p i=>
  show((zO x).nr&&qH (p.map zO))=true;rw[i,show(zO x).nr=true from YY x]
  rfl
theorem OQ {f:Pg->Nat}:∀{ks:List Pg},(∀k∈ks,A[f k]? =some (pO k))->Zj A (ks.map λk=>W.ref (f k))=some (ks.map λk=>(f k,k.map zO))
 |[],_=>rfl|k::ks,h=>by
  rw[aF];unfold Zj;rw[h k (ay ..)];dsimp only;rw[ah (W7 k),OQ λx H=>h x (aw _ H)]
  rfl
def sorted_out {f:Fn}{a0:Nat}(hn:qH ws=true)(m:∀i,i<L.length->C[a0+i]? =some (pO (L.getD i [])))(nd:L.Nodup)(g:L.length<64)
  (h:∀w r,ZG (.ref C.length) (C++[.lst (((List.range L.length).filter λi=>q (L.getD i [])).map λi=>W.ref (a0+i))])=.ok w r->f ws []=.ok w r)(A:Hx):
  wH f ws A=.ok (.ref (A.length+(jz (O:=yV) (L.filter q)).length)) (A++(jz (O:=yV) (L.filter q)).map pO++[yQ A.length (jz (O:=yV) (L.filter q)).length]):=by
 generalize s:((List.range L.length).filter λi=>q (L.getD i []))=is at h;have hf:(is.map λi=>L.getD i [])=L.filter q:=by rw[<- s];exact FZ
 have l:∀i∈is,i<L.length:=λi h=>by rw[<- s]at h;exact cx.mp (List.mem_filter.mp h).1
 have o:=O2 (A:=C++[.lst (is.map λi=>W.ref (a0+i))]) (L:=L) (a0:=a0) (is:=is) λi h=>qZ (m i (l i h));rw[hf]at o;have n:(L.filter q).Nodup:=nd.filter q;have hlen:(L.filter q).length<64:=bT (bo ..) g;have v:ZG (.ref C.length) (C++[.lst (is.map λi=>W.ref (a0+i))])=.ok (.ref (C++[O.lst (is.map λi=>W.ref (a0+i))]).length) (C++[.lst (is.map λi=>W.ref (a0+i))]++[.lst ((jz (O:=yV) (L.filter q)).map λk=>(is.map λi=>W.ref (a0+i)).getD ((L.filter q).idxOf k) .non)]):=by
  unfold ZG;dsimp only;rw[qI];dsimp only;rw[o];dsimp only;rw[ah ⟨hlen,n⟩]
 have h:=h _ _ v;have u:(L.filter q).length=is.length:=by rw[<- hf,ag]
 have H:∀k∈jz (O:=yV) (L.filter q),(is.map λi=>W.ref (a0+i)).getD ((L.filter q).idxOf k) .non=W.ref (a0+is.getD ((L.filter q).idxOf k) 0)/\is.getD ((L.filter q).idxOf k) 0<L.length/\L.getD (is.getD ((L.filter q).idxOf k) 0) []=k:=λk b=>by
  have d:k∈L.filter q:=(QT _).mem_iff.mp b;have j:(L.filter q).idxOf k<(L.filter q).length:=List.idxOf_lt_length_iff.mpr d;have a:(L.filter q).idxOf k<is.length:=by omega
  have E:is.getD ((L.filter q).idxOf k) 0=is[(L.filter q).idxOf k]:=by rw[ab,aa a];rfl
  refine⟨by rw[E,ab,av,aa a];rfl,by rw[E];exact l _ (aS a),?_⟩
  rw[E];have p:(is.map λi=>L.getD i [])[(L.filter q).idxOf k]'(by rw[ag];exact a)=(L.filter q)[(L.filter q).idxOf k]:=by simp only[hf]
  rw[List.getElem_map,List.getElem_idxOf]at p;exact p
 have B:((jz (O:=yV) (L.filter q)).map λk=>(is.map λi=>W.ref (a0+i)).getD ((L.filter q).idxOf k) .non)=(jz (O:=yV) (L.filter q)).map λk=>W.ref (a0+is.getD ((L.filter q).idxOf k) 0):=aL λk b=>(H k b).1;rw[B]at h;have z:=Bi hn h qI (OQ (f:=λk=>a0+is.getD ((L.filter q).idxOf k) 0) λk b=>qZ (qZ (by
  have:=m _ (H k b).2.1
  rw[(H k b).2.2]at this;exact this))) (by
  rw[aI];have N:(jz (O:=yV) (L.filter q)).Nodup:=(QT _).nodup_iff.mpr n;refine List.pairwise_map.mpr (List.Pairwise.imp_of_mem (λ {x y} j t c e=>c ?_) N);have e:a0+is.getD ((L.filter q).idxOf x) 0=a0+is.getD ((L.filter q).idxOf y) 0:=e;rw[<- (H x j).2.2,<- (H y t).2.2,show is.getD ((L.filter q).idxOf x) 0=is.getD ((L.filter q).idxOf y) 0 by omega]) A
 rw[z,ag,aI]
 rfl
end
section
variable {B C:Hx}{K:Nat}{w:W}{p:Pg}{L:List Pg}
def Zs (t:b0)(K:Nat)(p:Pg):Bool:=(yT (jf t (jm K p)) (p.length+1)).isEmpty
abbrev XP (t:b0)(K:Nat):List Pg:=jz (O:=yV) ((PL K).filter (Zs t K))
def mem_getD {x:List Pg}(h:i<x.length):x.getD i []∈x:=by rw[ab,aa h];exact aS h
def ic (H:1<=K)(h:K<=6)(A:Hx):QN [.int (K:Int)] A=.ok (.ref (A.length+(PL K).length)) (A++(PL K).map pO++[yQ A.length (PL K).length]):=Bb (f:=Xc) (ia H h) A
def Cm (ht:zX t)(H:z9 t=(K:Int))(h:QI K p)(A:Hx):Z7 [zl (jf t (jm K p))] A=.ok (Lv (yT (jf t (jm K p)) (p.length+1)).head?) A:=
 Ob (YV ht H h).1 (YV ht H h).2 A
def Cd (ht:zX t)(a:z9 t=(K:Int))(c:K<=6)(A:Hx):Jt [zl t] A=.ok (.ref (A.length+(XP t K).length)) (A++(XP t K).map pO++[yQ A.length (XP t K).length]):=by
 have d:=jW ht;obtain⟨nd,b,ok⟩:=Uc (K:=K) (by omega) c
 have h:=Ls.new (L:=PL K) (A:=[]);have l:=ic (K:=K) (by omega) c []
 generalize ([]:Hx).length+(PL K).length=r at l h;generalize ([]:Hx)++(PL K).map pO++[yQ ([]:Hx).length (PL K).length]=C at l h;generalize ([]:Hx).length=a0 at h;obtain⟨B,e,x⟩:=OE (q:=Zs t K) (ρ:=[some (zl t),some (.int (K:Int))]) (A:=[]) (cap:=[0]) (mi:=zN (zC QN (zh zt zo))) (ifs:=zi (wg false) (zC Z7 (zh (zC JT (zh zt (zh zj zo))) zo)) Kz) h (by omega)
  (O4 ((qa (zG (zm rfl) zV)).trans l) h.r)
  (λi B H x=>by
   have p:=ok _ (mem_getD H);refine⟨B++[.dct (Jo ((PL K).getD i []))],?_,Ext.one⟩;refine(zS ((qa (zG ((qa (zG (zm rfl) (zG (zm rfl) zV))).trans (O5 ht a p ((h.mono x).at_ i H))) zV)).trans (Cm ht a p _)) qW).trans ?_;unfold Zs;cases yT (jf t (jm K ((PL K).getD i []))) (((PL K).getD i []).length+1)<;>rfl)
 refine sorted_out (C:=B) (f:=G5) (ws:=[zl t]) (kO t) (λi H=>x.at (h.at_ i H)) nd b (λw j g=>?_) A;refine qX ?_;unfold Tv;refine(zP (wy ((qa (zG (zm rfl) zV)).trans (JG ht [])))).trans ?_;refine(zP (qV ((qa (zG (zm rfl) zV)).trans ((JW ht []).trans (by rw[a]))))).trans ?_
 refine(zP (ρ1:=[some (zl t),some (.int (K:Int))]) (A1:=[]) ((ye ((zS (zm rfl) qW).trans (show Jp (.int (K:Int)) (.int 6) []=.ok (.bl false) [] by show R.ok (W.bl (decide ((6:Int)<(K:Int)))) []=_;rw[ax (by omega)]))).trans jo)).trans ?_
 exact qN (jh ((NZ (yN e)).trans g))
end
def E4 {ifs:Ev}{N:Nat}
  (p:∀i ρ acc A,i<N->I i ρ acc A->∃w ρ1,j.at_ A i=some (some w)/\tw w ρ=some ρ1/\∃A1 c a A2,ifs ρ1 A=.ok (.bl true) A1/\em ρ1 acc A1=.ok (c,a) A2/\I (i+1) c a A2)
  (H:∀ρ acc A,I N ρ acc A->j.at_ A N=some none):
  ∀(f i:Nat)(ρ:En)(acc:List W)(A:Hx),i<=N->N<=i+f->I i ρ acc A->∃e b g,jj j tw ifs em f i ρ acc A=.ok (e,b) g/\I N e b g:=by
 intro f
 induction f with
 |zero=>
  intro i ρ acc A h h' d
  have:i=N:=by omega
  subst this;refine⟨ρ,acc,A,?_,d⟩;unfold jj;rw[H _ _ _ d]
 |succ f l=>
  intro i ρ acc A h h' d
  by_cases hi:i=N
  ·subst hi
   refine⟨ρ,acc,A,?_,d⟩;rw[jj,H _ _ _ d]
  ·obtain⟨w,ρ1,n,m,A1,c,a,A2,q,o,E⟩:=p i ρ acc A (by omega) d
   rw[jj,n];dsimp only;rw[m];dsimp only;rw[q,zJ];dsimp only;rw[o,zJ];exact l (i+1) _ _ _ (by omega) (by omega) E
def Ae {a b c:Ev}{lo h:Int}{v:Int}(e:a ρ A=.ok (.int lo) A)(d:b ρ A=.ok (.int v) A)(H:c ρ A=.ok (.int h) A):y9 gQ gQ a b c ρ A=.ok (.bl (decide (lo<=v)&&decide (v<=h))) A:=by
 unfold y9;rw[e,zJ,d,zJ];show R.bind (R.ok (W.bl (decide (lo<=v))) A) _=_;rw[zJ]
 by_cases q:lo<=v
 ·rw[aq q]
  dsimp only;rw[H,zJ,Bool.true_and]
  rfl
 ·rw[ax q]
  rfl
def Ml:w8 ws (some 1) none=ws.drop 1:=by
 unfold w8;cases ws with
 |nil=>rfl|cons v r=>
  have H:HT.qf (v::r).length 0 (some 1)=1:=by unfold HT.qf;simp
  have h:HT.qf (v::r).length (v::r).length none=(v::r).length:=rfl;rw[H,h];exact List.take_of_length_le (by rw[bZ];exact ao _)
section
variable {B C:Hx}{e k m:Nat}{v w:W}{p:Pg}{us:List W}{lo hi:Int}{q:b3}
def N4 {m:Ev}(h:m ρ A=.ok (.tup ws) A):kz m (wc qh) we ρ A=.ok (.tup (ws.drop 1)) A:=by
 unfold kz;rw[h,zJ];show R.ok (W.tup (w8 ws (some 1) none)) A=_;rw[Ml]
def NY {m:Ev}(h:m ρ A=.ok (.ref n) A)(H:A[n]? =some (.lst ws)):kz m (wc qh) we ρ A=.ok (.ref A.length) (A++[.lst (ws.drop 1)]):=by
 unfold kz;rw[h,zJ];show(match A[n]? with|some (O.lst ws)=>R.ok (W.ref A.length) (A++[O.lst (w8 ws (some 1) none)])|_=>.bad)=_
 rw[H];dsimp only;rw[Ml]
def Qo (h:A[n]? =some (.lst ws)):zW (.ref n) A=some ws:=by
 show(match A[n]? with|some (.lst ws)=>some ws|some (.ro ws)=>some ws|_=>none)=_
 rw[h]
def O3 {x:W}(o:kz zj (wc qh) we [some v] A=.ok x C)(f:zW v C=some us)(d:zW x C=some (us.drop 1))(r:us.length<=100)(H:∀i,i+1<us.length->ZR (us.getD i .non) (us.getD (i+1) .non) C=.ok (.bl true) C):QQ [v] A=.ok (.bl true) C:=by
 unfold QQ XD;refine qX ?_;unfold Ra;have at_:∀i,i<us.length->us[i]? =some (us.getD i .non):=λi g=>by rw[ab,aa g];rfl
 have n:QA zj (kz zj (wc qh) we) [some v] A=.ok (Zo v x us.length) C:=by
  unfold QA;rw[show zj [some v] A=.ok v A from zm rfl,zJ,o,zJ,f,d]
 have z:∀i,(Zo v x us.length).at_ C i=some (zip2 us[i]? (us.drop 1)[i]?):=λi=>by
  unfold Zo;dsimp only;rw[f,d]
 obtain⟨m,acc,B,e,_,b,a⟩:=E4 (j:=Zo v x us.length) (tw:=qP 0 1) (ifs:=zT) (em:=zF (zi ZR zj zt)) (N:=us.length-1)
  (I:=λi ρ acc B=>(∃c Y,ρ=[c,Y])/\B=C/\acc=(List.range i).map λ_=>W.bl true)
  (λi ρ acc B g ⟨⟨c,Y,h⟩,b,a⟩=>by
   subst h b a;refine⟨.tup [us.getD i .non,us.getD (i+1) .non],[some (us.getD i .non),some (us.getD (i+1) .non)],?_,rfl,B,_,_,B,rfl,JL (y:=.bl true) ((zS (zm rfl) (zm rfl)).trans (H i (by omega))) (by rw[ag,aE];unfold zQ;omega),⟨_,_,rfl⟩,rfl,?_⟩
   ·rw[z,at_ i (by omega),List.getElem?_drop,add_comm 1 i,at_ (i+1) (by omega)]
    rfl
   ·rw[bf,aQ]
    rfl)
  (λρ acc B q=>by
   rw[q.2.1,z,aD (l:=us.drop 1) (by rw[bZ];exact ao _)]
   cases us[us.length-1]?<;>rfl) us.length 0 [none,none] [] C (by omega) (by omega) ⟨⟨_,_,rfl⟩,rfl,rfl⟩
 subst b a;have E:zH 2 [] (QA zj (kz zj (wc qh) we)) (qP 0 1) zT (zF (zi ZR zj zt)) [some v] A=.ok ((List.range (us.length-1)).map λ_=>W.bl true) B:=by
  unfold zH;rw[n,zJ];show(R.nox (jj _ _ _ _ us.length 0 [none,none] [] B)).bind _=_;rw[e]
  rfl
 exact qN (jh ((j3 E).trans (QX (p:=λ_=>true) λ_ _=>rfl)))
def M3 {f:List Int->W}{l:Pg}(h:i<l.length):(l.map f).getD i .non=f (l.getD i []):=by
 rw[ab,av,ab,aa h]
 rfl
def ie (l:q.length<=8)(H:∀i,i+1<q.length->q.getD i 0<q.getD (i+1) 0)(A:Hx):QQ [zO q] A=.ok (.bl true) A:=by
 have g:∀i,i<q.length->(q.map W.int).getD i .non=.int (q.getD i 0):=λi h=>by rw[ab,int_at h];rfl
 refine O3 (N4 (ws:=q.map W.int) (zm rfl)) (us:=q.map W.int) rfl rfl (by rw[ag];omega) λi h=>?_
 rw[ag]at h;rw[g i (by omega),g (i+1) h]
 show R.ok (W.bl (decide (_<_))) A=_;rw[aq (H i h)]
def ig (H:A[n]? =some (pO p))(a:p.length<=8)(r:∀i,i+1<p.length->gf (p.getD i []) (p.getD (i+1) [])=true):∃o,QQ [.ref n] A=.ok (.bl true) (A++[o]):=by
 refine⟨_,O3 (NY (zm rfl) H) (us:=p.map zO) (Qo (qZ H)) (Qo qI) (by rw[ag];omega) λi h=>?_⟩
 rw[ag]at h;rw[M3 (by omega),M3 h]
 show(match intsOf (_:List W),intsOf _ with|some k,some l=>R.ok (W.bl (gf k l)) _|_,_=>.bad)=_
 rw[Zy,Zy];dsimp only;rw[r i h]
structure Up (lo hi:Int)(q:b3):Prop where
 l8:q.length<=8
 bd:∀v∈q,lo<=v/\v<=hi
 up:∀i,i+1<q.length->q.getD i 0<q.getD (i+1) 0
def MB (h:Up lo hi q)(A:Hx):Js [zO q,.int lo,.int hi] A=.ok (.bl true) A:=by
 have l8:=h.l8;unfold Js G2;refine qX ?_;unfold Th;refine(zP ((ye (A1:=A) (wQ (k:=true) rfl)).trans jo)).trans (qN (jh ?_));have e:=QW (cap:=[1,2]) (A:=A) (ρ:=[some (zO q),some (.int lo),some (.int hi)]) (ws:=q.map W.int) (m:=zj) (me:=zC KS (zh zj (zh zt (zh zI zo)))) (g:=λ_=>.bl true) (zm rfl) (by rw[ag];unfold zQ;omega) (λw hw=>by
  obtain⟨v,H,rfl⟩:=cz.mp hw;refine(qa (ws:=[.int v,.int lo,.int hi]) (A1:=A) rfl).trans ?_;unfold KS GZ;refine qX ?_;unfold Te;refine qN (jh ((gI ((qa (ws:=[.int v]) (A1:=A) rfl).trans (Bt (ty:=.int) rfl))).trans ((Ae (zm rfl) (zm rfl) (zm rfl)).trans ?_)));rw[aq (h.bd v H).1,aq (h.bd v H).2]
  rfl)
 exact(gI ((j3 e).trans (QX (p:=λ_=>true) λ_ _=>rfl))).trans ((qa (ws:=[zO q]) (A1:=A) rfl).trans (ie l8 h.up A))
variable {K:Nat}{u:W}
def Kf {D:α->PyData}(he:∀x y,PyData.eqv (D x) (D y)=true↔x=y){s:α}{xs:List α}{y:Bool}(d:qc A 8 u=some (D s))(c:qc A 8 v=some (.list (xs.map D)))(H:y=true↔s∈xs):j0 u v A=.ok (.bl (!y)) A:=by
 unfold j0;rw[d,c];dsimp only
 congr 2
 rw[List.any_map]
 congr 1
 rw[Bool.eq_iff_iff,List.any_eq_true,H]
 constructor
 ·rintro⟨x,a,h⟩
  exact(he x s).mp h ▸ a
 ·intro b
  exact⟨s,b,(he s s).mpr rfl⟩
def BD (s u:b3):PyData.eqv (wC s) (wC u)=true↔s=u:=by rw[wC,wC,PyData.eqv,JD,af]
abbrev Ky (p:Pg):PyData:=.list (p.map wC)
def OH (s u:Pg):PyData.eqv (Ky s) (Ky u)=true↔s=u:=by rw[PyData.eqv,XB,af]
def WW (h:A[n]? =some (pO p)):qc A (k+2) (.ref n)=some (Ky p):=QV h (YI (YZ A k) p)
def Wq {xs:Pg}{y:Bool}(h:A[n]? =some (pO xs))(H:y=true↔q∈xs):j0 (zO q) (.ref n) A=.ok (.bl (!y)) A:=Kf BD (YZ A 7 q) (WW h) H
def ij {x:PyData}(a:qc A 8 u=some x)(H:qc A 8 v=some x)(h:PyData.eqv x x=true):jd u v A=.ok (.bl true) A:=by
 show kD false u v A=_;unfold kD;rw[a,H];dsimp only;rw[h]
 rfl
def Oc {r:b3}(h:A[n]? =some (.lst (r.map W.int))):qc A 8 (.ref n)=some (.list (r.map .int)):=QV h (YI (λ_=>rfl) r)
def MK {r:b3}(H:A[n]? =some (.lst (r.map W.int)))(h:A[m]? =some (.lst (r.map W.int))):jd (.ref n) (.ref m) A=.ok (.bl true) A:=
 ij (Oc H) (Oc h) (by rw[PyData.eqv,JD];exact aq rfl)
structure Yn (K:Nat)(p:Pg):Prop where
 l8:p.length<=8
 up:∀q∈p,Up 1 ((K:Int)-1) q
 ne:[]∉p
 ri:∀i,i+1<p.length->gf (p.getD i []) (p.getD (i+1) [])=true
 f8:p.flatten.length<=8
 so:jz (O:=IO) p.flatten=(List.range (K-1)).map λ(k:Nat)=>1+(k:Int)
def GN (K:Nat)(p:Pg):Bool:=decide (p.length<=8)&&(p.all λq=>decide (q≠[])&&decide (q.length<=8)&&(q.all λv=>decide (1<=v)&&decide (v<=(K:Int)-1))&&(List.range (q.length-1)).all λi=>decide (q.getD i 0<q.getD (i+1) 0))&&
 ((List.range (p.length-1)).all λi=>gf (p.getD i []) (p.getD (i+1) []))&&decide (p.flatten.length<=8)&&decide (jz (O:=IO) p.flatten=(List.range (K-1)).map λ(k:Nat)=>1+(k:Int))
def NL (h:GN K p=true):Yn K p:=by
 unfold GN at h;simp only[ak,af,aX,bA]at h;obtain⟨⟨⟨⟨g,H⟩,f⟩,e⟩,d⟩:=h;exact⟨g,λq a=>⟨(H q a).1.1.2,λv b=>(H q a).1.2 v b,λi c=>(H q a).2 i (by omega)⟩,λz=>(H [] z).1.1.1 rfl,λi c=>f i (by omega),e,d⟩
def Mk (ht:zX t)(l:z9 t=(K:Int))(h:Yn K p)(H:A[n]? =some (pO p)):∃B,Yu [zl t,.ref n] A=.ok (.bl true) B/\Ext A B:=by
 have J:=jW ht;have l8:=h.l8;have f8:=h.f8;have hw:(p.map zO).length=p.length:=ag ..;have hit:∀{ρ:En}{i:Nat},ρ[i]? =some (some (.ref n))->zN (qE i) ρ A=.ok ⟨λA i=>(zW (.ref n) A).map λws=>ws[i]?,p.length⟩ A:=λz=>hw ▸ wU (zm z) H;have b:∀i,i<p.length->((zW (.ref n) A).map λws=>ws[i]?)=some (some (zO (p.getD i []))):=λi c=>ZK H (k8 (t:=p) c);have a:((zW (.ref n) A).map λws=>ws[p.length]?)=some none:=ZL H (by rw[hw];exact ao _)
 have I:=wN (cap:=[2]) (ρ:=[some (zl t),some (.ref n),some (.int ((K:Int)-1)),none]) (A:=A) (me:=zC Js (zh zj (zh qh (zh zt zo)))) (mi:=zN zt) (N:=p.length) (g:=λ_=>.bl true) (hit (i:=1) rfl) rfl (by unfold zQ;omega) b a
  (λi c=>(qa (ws:=[zO (p.getD i []),.int 1,.int ((K:Int)-1)]) (A1:=A) rfl).trans (MB (h.up _ (jC (t:=p) c)) A))
 obtain⟨f,d⟩:=Pb (t:=p) (A:=A) (j:=⟨λA i=>(zW (.ref n) A).map λws=>ws[i]?,p.length⟩) b a p.length 0 none none [] (by omega) (by simp only[drop_zero,bE];unfold zQ;omega)
 have w:zH 2 [] (zN zt) (zD 0) zT (kd (zN zj) (zD 1) zT (zF zt)) [some (zl t),some (.ref n),some (.int ((K:Int)-1)),none] A=.ok (p.flatten.map W.int) A:=by
  unfold zH;rw[hit (ρ:=[some (zl t),some (.ref n),some (.int ((K:Int)-1)),none]) (i:=1) rfl,zJ];show R.bind (R.nox (jj ⟨λA i=>(zW (.ref n) A).map λws=>ws[i]?,p.length⟩ _ _ _ p.length 0 [none,none] [] A)) _=_;rw[drop_zero]at d;rw[d]
  rfl
 have v:=yN w;obtain⟨o,E⟩:=ig (A:=A++[.lst (p.flatten.map W.int)]) (qZ H) l8 h.ri;have hf:(A++[.lst (p.flatten.map W.int)]++[o])[A.length]? =some (.lst (p.flatten.map W.int)):=qZ qI;have e:=Wq (q:=[]) (y:=false) (qZ (u:=o) (qZ (u:=.lst (p.flatten.map W.int)) H)) ⟨(λz=>by cases z),λz=>absurd z h.ne⟩
 have x:Ext A (A++[.lst (p.flatten.map W.int)]++[o]):=Ext.one.trans Ext.one;generalize A++[.lst (p.flatten.map W.int)]++[o]=C at E hf e x;have s:yc ZJ qg [some (zl t),some (.ref n),some (.int ((K:Int)-1)),some (.ref A.length)] C=.ok (.ref C.length) (C++[.lst (((List.range (K-1)).map λ(k:Nat)=>1+(k:Int)).map W.int)]):=by
  refine(NZ (zm rfl)).trans ?_;unfold ZJ;dsimp only;rw[hf];dsimp only;rw[Zy];dsimp only;rw[ah (by omega),h.so]
 have r:=Pc (M:=K-1) (ma:=qh) (mb:=zi qY zI qh) (ρ:=[some (zl t),some (.ref n),some (.int ((K:Int)-1)),some (.ref A.length)]) (A:=C++[.lst (((List.range (K-1)).map λ(k:Nat)=>1+(k:Int)).map W.int)]) qW ((zS (zm rfl) qW).trans (by show R.ok (W.int ((K:Int)-1+1)) _=_;rw[show(K:Int)-1+1=1+((K-1:Nat):Int) by omega])) (by omega)
 obtain⟨D,m,X⟩:∃D,zi jd (yc ZJ qg) (QY qh (zi qY zI qh)) [some (zl t),some (.ref n),some (.int ((K:Int)-1)),some (.ref A.length)] C=.ok (.bl true) D/\Ext C D:=⟨_,(zS (g:=jd) s r).trans (MK (qZ qI) qI),Ext.one.trans Ext.one⟩;refine⟨D,?_,x.trans X⟩;unfold Yu G7;refine qX ?_;unfold Tr;refine(zP (qV ((zS ((qa (zG (zm rfl) zV)).trans ((JW ht A).trans (by rw[l]))) qW).trans rfl))).trans ?_
 refine(zP ((ye ((w5 (wQ (k:=true) ((Ui (zm rfl) (ty:=.lst) (by show(match A[n]? with|some (.lst _)=>some Ty.lst|some (.dct _)=>some Ty.dct|_=>_)=_;rw[H])).trans rfl))).trans (wQ (k:=true) ((j3 I).trans (QX (p:=λ_=>true) λ_ _=>rfl))))).trans jo)).trans ?_
 refine(zP (qV v)).trans (qN (jh ?_));exact(gI ((qa (zG (zm rfl) zV)).trans E)).trans ((gI ((zS (g9 zV) (zm rfl)).trans e)).trans m)
def ik (ht:zX t)(a:z9 t=(K:Int))(h:Yn K p)(H:A[n]? =some (pO p)):∃B,K4 [zl t,.ref n] A=.ok (.bl true) B/\Ext A B:=by
 obtain⟨B,e,x⟩:=Mk ht a h H;refine⟨B,?_,x⟩;unfold K4 Xw;refine qX ?_;unfold SO;exact(zP (wy ((qa (zG (zm rfl) zV)).trans (JG ht A)))).trans (qN (jh ((qa (zG (zm rfl) (zG (zm rfl) zV))).trans e)))
def NW (ht:zX t)(a:z9 t=(K:Int))(h:Yn K p)(h':QI K p)(H:A[n]? =some (pO p)):∃B,Yz [zl t,.ref n] A=.ok (zl (jf t (jm K p))) B/\Ext A B:=by
 obtain⟨B,e,x⟩:=Mk ht a h H;refine⟨B++[.dct (Jo p)],?_,x.trans Ext.one⟩;unfold Yz XM;refine qX ?_;unfold Rq;exact(zP (wy ((qa (zG (zm rfl) zV)).trans (JG ht A)))).trans ((zP ((ye (wQ (k:=true) ((qa (zG (zm rfl) (zG (zm rfl) zV))).trans e))).trans jo)).trans (qN (jh ((qa (zG (zm rfl) (zG (zm rfl) zV))).trans (O5 ht a h' (x.at H))))))
end
def il (v:Int)(r:b3):Zu (.int v) (r.map W.int)=decide (v∈r):=by
 induction r with
 |nil=>rfl|cons x r i=>
  unfold Zu at i ⊢;rw[aF,bN,i];show((x==v) || decide (v∈r))=_
  by_cases h:x=v
  ·subst h
   simp
  ·have:(x==v)=false:=by simp[h]
   rw[this,Bool.false_or];have h':¬v=x:=λz=>h z.symm;simp[h']
def Y9 {b:Bool}(v:Int)(r:b3)(A:Hx):Zn b (.int v) (zy r) A=.ok (.bl (if b then !decide (v∈r) else decide (v∈r))) A:=by
 unfold Zn;show(if yo (.int v)&&(r.map W.int).all yo then R.ok (W.bl (if b then !Zu (.int v) (r.map W.int) else Zu (.int v) (r.map W.int))) A else .bad)=_;rw[il,ah];rw[all_map];show(true&&r.all λ_=>true)=true;simp
def ip (f:α->Bool)(l:List α)(A:Hx):gM (l.map λx=>W.bl (f x)) A=.ok (.bl (l.all f)) A:=by
 show ZT (λks=>ks.all id) _ A=_;unfold ZT;rw[XY];show R.ok (W.bl ((l.map f).all id)) A=_;rw[all_map]
 rfl
section
variable {B:Hx}{a b e k K m r:Nat}{w:W}{hi:Int}{ks:b3}{S:Nat->List (b3)}
def Lc {s:Nat}{g:W->List W}{P:En->Prop}(o:∀ρ,P ρ->ρ[4]? =some (some (.tup ws)))
  (n:∀ρ w,P ρ->w∈ws->∃ρ1,zD s w ρ=some ρ1/\∀acc,acc.length+(g w).length<=1000->∃c,em ρ1 acc A=.ok (c,acc++g w) A/\P c)(ρ:En)(acc:List W)(h:P ρ)(u:acc.length+(ws.flatMap g).length<=1000):
  ∃a,kd (zN qd) (zD s) zT em ρ acc A=.ok (a,acc++ws.flatMap g) A/\P a:=by
 obtain⟨a,b,B,e,H,m,f⟩:=PZ (j:=⟨λA i=>(zW (.tup ws) A).map λws=>ws[i]?,ws.length⟩) (tw:=zD s) (ifs:=zT) (em:=em) (N:=ws.length)
  (I:=λi a b B=>P a/\B=A/\b=acc++(ws.take i).flatMap g)
  (λi a b B d ⟨H,m,f⟩=>by
   subst m f;have hm:ws[i]? =some ws[i]:=aa d;have ht:ws.take (i+1)=ws.take i++[ws[i]]:=take_succ d;have t:(ws.flatMap g).length=((ws.take i).flatMap g).length+(g ws[i]).length+((ws.drop (i+1)).flatMap g).length:=by
    have:=congrArg (λl=>(l.flatMap g).length) (List.take_append_drop (i+1) ws)
    simp only[br,aB,ht,flatMap_cons,List.flatMap_nil,bI]at this;exact this.symm
   obtain⟨ρ1,r,q⟩:=n a ws[i] H (aS d);obtain⟨c,E,p⟩:=q (acc++(ws.take i).flatMap g) (by rw[aB];omega)
   refine⟨ws[i],ρ1,?_,r,.inl ⟨B,c,_,B,rfl,E,p,rfl,?_⟩⟩
   ·show some (ws[i]?)=_
    rw[hm]
   ·rw[ht,br,aU]
    simp)
  (λa b B _=>by
   show some (ws[ws.length]?)=_;rw[aD (ao _)]) ws.length 0 ρ acc A (by omega) ⟨h,rfl,by simp⟩
 subst m f;refine⟨a,?_,H⟩;unfold kd;rw[show zN qd ρ B=.ok ⟨λA i=>(zW (.tup ws) A).map λws=>ws[i]?,ws.length⟩ B from Qj (zm (o ρ h)),zJ]
 rw[take_length]at e;exact e
def QD (s:b0)(ks:b3)(k i j:Int):Bool:=decide (k∈ks) || decide (at2 s i.toNat j.toNat=0)
def Yq (s:b0)(ks:b3)(k:Int):List Bool:=ks.flatMap λi=>ks.map λj=>QD s ks k i j
def kf (S:Nat->List (b3))(K:Nat)(ks:b3):Bool:=((List.range K).flatMap λk=>Yq (S k) ks (k:Int)).all id
structure Sh (S:Nat->List (b3))(K:Nat):Prop where
 l:∀k,k<K->(S k).length=K
 r:∀k,k<K->∀a,a<K->((S k).getD a []).length=K
def iq {x:b0}(d:x.length=K)(H:∀a,a<K->(x.getD a []).length=K){i j:Int}(g:0<=i/\i<(K:Int))(f:0<=j/\j<(K:Int))(k:Int)(A:Hx):
  jL (zi yn zj qd) (zi jd (zi zM (zi zM zt zI) qg) qp) [some (.int k),some (zl x),some (.int i),some (.int j),some (zy ks)] A=.ok (.bl (QD x ks k i j)) A:=by
 have e:zi yn zj qd [some (.int k),some (zl x),some (.int i),some (.int j),some (zy ks)] A=.ok (.bl (decide (k∈ks))) A:=(zS (zm rfl) (zm rfl)).trans (Y9 (b:=false) k ks A);unfold QD
 by_cases h:k∈ks
 ·rw[aq h]at e ⊢
  exact fA e
 ·rw[ax h]at e ⊢
  refine(w5 e).trans ?_;have c:((i.toNat:Nat):Int)=i:=by omega
  have E:((j.toNat:Nat):Int)=j:=by omega
  refine(zS ((zS ((zS (zm rfl) (zm (w:=.int ((i.toNat:Nat):Int)) (by rw[c];rfl))).trans (J6 (by omega))) (zm (w:=.int ((j.toNat:Nat):Int)) (by rw[E];rfl))).trans (VI (by rw[H _ (by omega)];omega))) qW).trans ?_
  exact(Yo _ _ A).trans rfl
theorem YC {β:Type}{f:α->List β}{m:Nat}:∀{l:List α},(∀x∈l,(f x).length=m)->(l.flatMap f).length=l.length * m
 |[],_=>by simp|x::l,h=>by
  rw[flatMap_cons,aB,h x (ay ..),YC λy H=>h y (aw _ H),aN,succ_mul,add_comm]
def AX {x:b0}{k:Int}:(Yq x ks k).length=ks.length * ks.length:=YC λ_ _=>ag ..
def ir {x:b0}(l:x.length=K)(r:∀a,a<K->(x.getD a []).length=K)(d:∀i∈ks,0<=i/\i<(K:Int))(f:ks.length<=8)(k:Int)(A:Hx)(acc:List W)(b:acc.length<=900){y2 y3:Option W}:
  ∃Z z,kd (zN qd) (zD 2) zT (kd (zN qd) (zD 3) zT (zF (jL (zi yn zj qd) (zi jd (zi zM (zi zM zt zI) qg) qp)))) [some (.int k),some (zl x),y2,y3,some (zy ks)] acc A=.ok ([some (.int k),some (zl x),Z,z,some (zy ks)],acc++(Yq x ks k).map W.bl) A:=by
 have p:ks.length * ks.length<=64:=mul_le_mul f f;obtain⟨c,e,Z,z,H⟩:=Lc (A:=A) (s:=2) (ws:=ks.map W.int) (em:=kd (zN qd) (zD 3) zT (zF (jL (zi yn zj qd) (zi jd (zi zM (zi zM zt zI) qg) qp))))
  (g:=λw=>match w with|.int i=>(ks.map λj=>QD x ks k i j).map W.bl|_=>[]) (P:=λρ=>∃Z z,ρ=[some (.int k),some (zl x),Z,z,some (zy ks)])
  (λρ ⟨_,_,h⟩=>by rw[h];rfl)
  (λρ w ⟨Z,z,h⟩ hw=>by
   subst h;obtain⟨i,o,rfl⟩:=cz.mp hw;refine⟨[some (.int k),some (zl x),some (.int i),z,some (zy ks)],rfl,λacc b=>?_⟩;obtain⟨c,e,z,H⟩:=Lc (A:=A) (s:=3) (ws:=ks.map W.int) (em:=zF (jL (zi yn zj qd) (zi jd (zi zM (zi zM zt zI) qg) qp)))
    (g:=λw=>match w with|.int j=>[.bl (QD x ks k i j)]|_=>[]) (P:=λρ=>∃z,ρ=[some (.int k),some (zl x),some (.int i),z,some (zy ks)])
    (λρ ⟨_,h⟩=>by rw[h];rfl)
    (λρ w ⟨z,h⟩ hw=>by
     subst h;obtain⟨j,n,rfl⟩:=cz.mp hw;exact⟨[some (.int k),some (zl x),some (.int i),some (.int j),some (zy ks)],rfl,λacc b=>⟨_,JL (iq l r (d i o) (d j n) k A) (by unfold zQ;omega),_,rfl⟩⟩)
    [some (.int k),some (zl x),some (.int i),z,some (zy ks)] acc ⟨_,rfl⟩ (by
     rw[flatMap_map,YC (m:=1) (λ_ _=>rfl)];dsimp only at b;rw[ag,ag]at b;omega)
   subst H;refine⟨[some (.int k),some (zl x),some (.int i),z,some (zy ks)],e.trans ?_,_,_,rfl⟩;rw[flatMap_map];show R.ok (_,acc++ks.flatMap λj=>[W.bl (QD x ks k i j)]) A=.ok (_,acc++(ks.map λj=>QD x ks k i j).map W.bl) A;rw[aI,List.map_eq_flatMap]
   rfl)
  [some (.int k),some (zl x),y2,y3,some (zy ks)] acc ⟨_,_,rfl⟩ (by
   rw[flatMap_map,YC (m:=ks.length) (λ_ _=>by rw[ag,ag])]
   omega)
 subst H;refine⟨Z,z,e.trans ?_⟩;unfold Yq;rw[flatMap_map,List.map_flatMap]
def keeps_F (h:Sh S K)(q:K<=8)(o:∀i∈ks,0<=i/\i<(K:Int))(f:ks.length<=8)(n:A[r]? =some (.lst ((List.range K).map λk=>zl (S k)))):Jy [.ref r,zy ks] A=.ok (.bl (kf S K ks)) A:=by
 have g:ks.length * ks.length<=64:=mul_le_mul f f;have hlen:((List.range K).map λk=>zl (S k)).length=K:=by rw[ag,aE]
 have s:=Qo n;unfold Jy Xg;refine qX ?_;unfold Sa;obtain⟨a,acc,B,e,_,d,H⟩:=YA (nl:=4) (cap:=[1]) (mi:=j4 zj) (tw:=qP 0 1) (ifs:=zT) (em:=kd (zN qd) (zD 2) zT (kd (zN qd) (zD 3) zT (zF (jL (zi yn zj qd) (zi jd (zi zM (zi zM zt zI) qg) qp))))) (N:=K) (ρ:=[some (.ref r),some (zy ks)]) (A:=A) (A1:=A) (j:=yu (.ref r) K)
  (I:=λi a acc B=>(∃Y y y2 y3,a=[Y,y,y2,y3,some (zy ks)])/\B=A/\acc=((List.range i).flatMap λk=>Yq (S k) ks (k:Int)).map W.bl)
  (by
   unfold j4;rw[show zj [some (.ref r),some (zy ks)] A=.ok (.ref r) A from zm rfl,zJ,s]
   dsimp only;rw[hlen]) rfl
  (λi a acc B c ⟨⟨Y,y,y2,y3,b⟩,d,H⟩=>by
   subst b d;have L:acc.length<=900:=by
    rw[H,ag,YC (m:=ks.length * ks.length) (λ_ _=>AX),aE]
    have:=mul_le_mul (show i<=8 by omega) g
    omega
   obtain⟨Z,z,e⟩:=ir (ks:=ks) (h.l i c) (h.r i c) o f (i:Int) B acc L (y2:=y2) (y3:=y3);refine⟨.tup [.int (i:Int),zl (S i)],[some (.int (i:Int)),some (zl (S i)),y2,y3,some (zy ks)],?_,rfl,.inl ⟨B,_,_,B,rfl,e,⟨_,_,_,_,rfl⟩,rfl,?_⟩⟩
   ·unfold yu
    dsimp only;rw[s];dsimp only;unfold atEnd;rw[av,a6 c]
    rfl
   ·rw[H,bf,br,aQ]
    simp)
  (λa acc B p=>by
   rw[p.2.1];unfold yu;dsimp only;rw[s];dsimp only;unfold atEnd;rw[aD (by rw[hlen];exact ao _)]
   exact ah hlen) ⟨⟨_,_,_,_,rfl⟩,rfl,rfl⟩
 subst d H;exact qN (jh ((j3 e).trans (ip id _ B)))
variable {u v:W}{q:b3}
def Vt {m m':Ev}{A2:Hx}{i j:Int}(h:m ρ A=.ok (.int i) A1)(h':m' ρ A1=.ok (.int j) A2)(a:je i=true)(H:je j=true):Qs m m' ρ A=.ok (wB i (j-i).toNat) A2:=by
 unfold Qs;rw[h,zJ,h',zJ];dsimp only;rw[a,H]
 rfl
def CW {v:Int}(h:q.length<=100):qY (zO q) (.tup [.int v]) A=.ok (zO (q++[v])) A:=by
 unfold qY zO;dsimp only;rw[ah (by rw[ag];unfold zQ;simp;omega),aQ]
 rfl
def UG {x:α}{f:α->Bool}(L:List α):(((List.range L.length).filter λi=>f (L.getD i x)).map λi=>L.getD i x)=L.filter f:=by
 have h:L=(List.range L.length).map λi=>L.getD i x:=(Je L).symm
 conv=>rhs;rw[h]
 rw[filter_map]
 rfl
noncomputable def CL:Nat->Pg
 |0=>[[0]]|1=>[[0]]|n+2=>CL (n+1)++(CL (n+1)).map (·++[((n+1:Nat):Int)])
theorem k7:∀{K:Nat}{ks:b3},1<=K->ks∈CL K->(0∈ks/\ks≠[])/\ks=((List.range K).filter λ(k:Nat)=>decide ((k:Int)∈ks)).map λ(k:Nat)=>(k:Int)
 |0,_,h,_=>by omega|1,ks,_,h=>by
  have:ks=[0]:=by simpa[CL] using h
  subst this
  decide
 |K+2,ks,_,h=>by
  unfold CL at h;have n:∀{l:b3},l∈CL (K+1)->((K+1:Nat):Int)∉l:=λ {l} H z=>by
   obtain⟨_,e⟩:=k7 (by omega) H
   rw[e]at z;obtain⟨k,b,c⟩:=cz.mp z
   have:=cx.mp (List.mem_filter.mp b).1
   omega
  rcases List.mem_append.mp h with h|h
  ·obtain⟨a1,a2⟩:=k7 (by omega) h
   refine⟨a1,?_⟩;rw[bf,bB,bF (l:=[]) (by rw[af];exact n h),filter_nil,bI]
   exact a2
  ·obtain⟨l,H,rfl⟩:=cz.mp h
   obtain⟨a1,a2⟩:=k7 (by omega) H
   refine⟨⟨aY _ a1.1,by simp⟩,?_⟩
   rw[bf,bB,a9 (l:=[]) (by rw[af];exact aK _ (cC.mpr rfl)),filter_nil,aQ]
   congr 1
   rw[a2]
   congr 1
   refine filter_congr λk a=>?_;have a:=cx.mp a;rw[<- a2,Bool.eq_iff_iff,af,af,List.mem_append,List.mem_singleton];exact⟨λz=>.inl z,λz=>z.resolve_right (by omega)⟩
theorem Gb {f:Nat->Bool}(h0:f 0=true):∀{K:Nat},1<=K->((List.range K).filter f).map (λ(k:Nat)=>(k:Int))∈CL K
 |0,h=>by omega|1,_=>by
  rw[show List.range 1=[0] from rfl,a9 h0]
  exact cC.mpr rfl
 |K+2,_=>by
  have i:=Gb h0 (K:=K+1) (by omega)
  unfold CL;rw[bf,bB,aQ];cases hf:f (K+1) with
  |true=>
   rw[a9 hf];exact aK _ (cz.mpr ⟨_,i,rfl⟩)
  |false=>
   rw[bF (by rw[hf];simp),filter_nil,map_nil,bI]
   exact aY _ i
theorem N7:∀{K:Nat},1<=K->(CL K).length=2 ^ (K-1)
 |0,h=>by omega|1,_=>rfl|K+2,_=>by
  unfold CL;rw[aB,ag,N7 (K:=K+1) (by omega)]
  show 2 ^ K+2 ^ K=2 ^ (K+1);rw[Nat.pow_succ];omega
def N8 {K:Nat}(h:1<=K)(H:K<=8):(CL K).length<=128:=by
 rw[N7 h];exact(Nat.pow_le_pow_right (by omega) (show K-1<=7 by omega):2 ^ (K-1)<=2 ^ 7)
def Qz (H:1<=K)(h:ks∈CL K):(∀i∈ks,0<=i/\i<(K:Int))/\ks.length<=K:=by
 obtain⟨_,e⟩:=k7 H h
 constructor
 ·intro i a
  rw[e]at a;obtain⟨k,H,rfl⟩:=cz.mp a
  have:=cx.mp (List.mem_filter.mp H).1
  omega
 ·rw[e,ag]
  have:=bo (λ(k:Nat)=>decide ((k:Int)∈ks)) (List.range K)
  rw[aE]at this;exact this
abbrev CS (S:Nat->List (b3))(K:Nat):Pg:=ZN ((CL K).filter (kf S K))
theorem NT:∀{ks:Pg},(∀k∈ks,k≠[])->Qu (ks.map zO)=some ks
 |[],_=>rfl|k::ks,h=>by
  show(match intsOf (k.map W.int) with|some k=>if k=[] then none else(Qu (ks.map zO)).map (k::·)|none=>none)=_
  rw[Zy];dsimp only;rw[aj (h k (ay ..)),NT λk H=>h k (aw _ H)]
  rfl
def PY {m:Ev}{ks:Pg}(h:m ρ A=.ok (.ref n) B)(hn:B[n]? =some (pO ks))(ne:∀k∈ks,k≠[])(H:ks.length<64):Y6 m ρ A=.ok (.ref B.length) (B++[pO (ZN ks)]):=by
 unfold Y6;rw[h,zJ];unfold VF;dsimp only;rw[hn];dsimp only;rw[NT ne];dsimp only;rw[ah H]
def CB (ht:zX t)(o:z9 t=(K:Int))(s:yT t K=[])(T:∀a b,a<t.length->b<t.length->j7 t K a b=S (at2 t a b).toNat)(M:Sh S K)(l:((CL K).filter (kf S K)).length<64)(A:Hx):JP [zl t] A=.ok (.ref A.length) (A++[pO (CS S K)]):=by
 have kb:=jW ht;have z:=Pu ht o T [];have hlen:((List.range K).map λk=>zl (S k)).length=K:=by rw[ag,aE]
 have y:qF (zh (qM (zh qp zo)) zo) [some (zl t),some (.ref 0),none,none] ([]++[.lst ((List.range K).map λk=>zl (S k))])=.ok (.ref 1) ([]++[.lst ((List.range K).map λk=>zl (S k))]++[pO (CL 1)]):=kq (zG (g9 (zG qW zV)) zV);generalize e:([]:Hx)++[.lst ((List.range K).map λk=>zl (S k))]=C at z y;have h0:C[0]? =some (.lst ((List.range K).map λk=>zl (S k))):=by rw[<- e];rfl
 have L:C.length=1:=by rw[<- e];rfl
 have d:=Vt (m:=qh) (m':=mQ qQ (qo zt)) (ρ:=[some (zl t),some (.ref 0),some (.ref 1),none]) (A:=C++[pO (CL 1)]) (A1:=C++[pO (CL 1)]) (A2:=C++[pO (CL 1)]) (i:=1) (j:=(K:Int)) qW ((j3 (yY (zm rfl) (Qo (qZ h0)))).trans (by show R.ok (W.int (((List.range K).map λk=>zl (S k)).length:Nat)) _=_;rw[hlen])) (by decide) (gC (by omega))
 rw[show((K:Int)-1).toNat=K-1 by omega]at d
 obtain⟨J,D,Z,⟨r,y3,c,n,h⟩⟩:=Qa (j:=wB 1 (K-1)) (st:=turn (zD 3) (zq (qe 2 (zi qY zI (qm (zH 1 [3] (zN zI) (zD 0) zT (zF (zi qY zj (qM (zh zt zo)))))))) zx)) (N:=K-1)
  (I:=λi ρ B=>∃r y3,ρ=[some (zl t),some (.ref 0),some (.ref r),y3]/\B[0]? =some (.lst ((List.range K).map λk=>zl (S k)))/\B[r]? =some (pO (CL (i+1))))
  (λi ρ B Q ⟨r,y3,c,h0,d⟩=>by
   subst c;have U:=N8 (K:=i+1) (by omega) (by omega)
   have hw:((CL (i+1)).map zO).length=(CL (i+1)).length:=ag ..;have p:=yN (wN (cap:=[3]) (ρ:=[some (zl t),some (.ref 0),some (.ref r),some (.int (1+(i:Int)))]) (A:=B) (mi:=zN zI) (me:=zi qY zj (qM (zh zt zo))) (N:=(CL (i+1)).length) (item:=λj=>zO ((CL (i+1)).getD j [])) (g:=λj=>zO ((CL (i+1)).getD j []++[((i+1:Nat):Int)])) (hw ▸ wU (zm rfl) d) rfl (by unfold zQ;omega)
    (λj H=>ZK d (k8 (t:=CL (i+1)) H)) (ZL d (by rw[hw];exact ao _))
    (λj H=>by
     have:=(Qz (by omega) (jC (t:=CL (i+1)) H)).2
     refine(zS (zm rfl) (g9 (zG (zm rfl) zV))).trans ((CW (v:=1+(i:Int)) (by omega)).trans ?_)
     rw[show 1+(i:Int)=((i+1:Nat):Int) by omega]))
   have E:((List.range (CL (i+1)).length).map λj=>zO ((CL (i+1)).getD j []++[((i+1:Nat):Int)]))=((CL (i+1)).map (·++[((i+1:Nat):Int)])).map zO:=by
    rw[aI,QO (CL (i+1)) [] (zO ∘ (·++[((i+1:Nat):Int)]))]
    rfl
   rw[E]at p;have X:=(zS (g:=qY) (zm (i:=2) (w:=.ref r) (ρ:=[some (zl t),some (.ref 0),some (.ref r),some (.int (1+(i:Int)))]) (A:=B) rfl) p).trans (P8 (qZ d) qI (by rw[ag,ag,ag];unfold zQ;omega))
   refine⟨.int (1+(i:Int)),_,_,Qm Q,(kX rfl).trans ((zP (qV X)).trans jo),_,_,rfl,qZ (qZ h0),?_⟩;rw[qI,<- aQ]
   rfl)
  (λρ B _=>Qg (by omega)) (K-1) 0 [some (zl t),some (.ref 0),some (.ref 1),none] (C++[pO (CL 1)]) (by omega) ⟨1,none,rfl,qZ h0,by
   have:=qI (A:=C) (u:=pO (CL 1))
   rw[L]at this;exact this⟩
 subst c;rw[show K-1+1=K by omega]at h
 have U:=N8 (K:=K) (by omega) (by omega)
 have hw:((CL K).map zO).length=(CL K).length:=ag ..;have q:=yN (QR (cap:=[1]) (ρ:=[some (zl t),some (.ref 0),some (.ref r),y3]) (A:=D) (mi:=zN zI) (ifs:=zC Jy (zh zt (zh zj zo))) (me:=zj) (N:=(CL K).length) (item:=λj=>zO ((CL K).getD j [])) (g:=λj=>zO ((CL K).getD j [])) (keep:=λj=>kf S K ((CL K).getD j [])) (hw ▸ wU (zm rfl) h) rfl (by unfold zQ;omega)
  (λj H=>ZK h (k8 (t:=CL K) H)) (ZL h (by rw[hw];exact ao _))
  (λj H=>by
   obtain⟨b1,b2⟩:=Qz (by omega) (jC (t:=CL K) H)
   exact(qa (ws:=[.ref 0,zy ((CL K).getD j [])]) (A1:=D) rfl).trans (keeps_F M (by omega) b1 (by omega) n))
  (λj H _=>zm rfl))
 have E:(((List.range (CL K).length).filter λj=>kf S K ((CL K).getD j [])).map λj=>zO ((CL K).getD j []))=((CL K).filter (kf S K)).map zO:=by rw[<- UG (x:=[]) (CL K),aI];rfl
 rw[E]at q;have Y:=PY q qI (λk P=>(k7 (by omega) (List.mem_filter.mp P).1).1.2) l
 refine JV (f:=X9) (k:=(D++[pO ((CL K).filter (kf S K))]).length) (A1:=D++[pO ((CL K).filter (kf S K))]++[pO (CS S K)]) (kO t) (qX ?_) qI (W7 _);unfold Oe;refine(zP (wy ((qa (zG (zm rfl) zV)).trans (VP ht o s [])))).trans ?_;refine(zP (qV ((qa (zG (zm rfl) zV)).trans z))).trans ?_;refine(zP (qV y)).trans ?_;exact(zP ((kU d).trans Z)).trans (qN (jh Y))
end
section
variable {a b c e k K d m r:Nat}{q ks ls:b3}{S:Nat->List (b3)}
def C4 (ht:zX t)(s:wY t)(K:Nat):∃S:Nat->List (b3),∀a b,a<t.length->b<t.length->j7 t K a b=S (at2 t a b).toNat:=by
 classical
 refine⟨λk=>if h:∃q:Nat×Nat,q.1<t.length/\q.2<t.length/\(at2 t q.1 q.2).toNat=k then j7 t K h.choose.1 h.choose.2 else [],λa b c H=>?_⟩;have x:∃q:Nat×Nat,q.1<t.length/\q.2<t.length/\(at2 t q.1 q.2).toNat=(at2 t a b).toNat:=⟨(a,b),c,H,rfl⟩;dsimp only;rw[dif_pos x];obtain⟨e,d,f⟩:=x.choose_spec;have g:=Qv ht c H;have B:=Qv ht e d;exact Oq ht s c H e d (by omega)
abbrev HS (t:b0)(K:Nat)(S:Nat->List (b3)):Prop:=∀a b,a<t.length->b<t.length->j7 t K a b=S (at2 t a b).toNat
def M6 (ht:zX t)(f:z9 t=(K:Int))(c:HS t K S)(d:k<K):∃a b,a<t.length/\b<t.length/\at2 t a b=(k:Int)/\S k=yD K (shr t a b t.length):=by
 obtain⟨a,b,H,h,e⟩:=Kb ht (v:=k) (by omega)
 refine⟨a,b,H,h,e,?_⟩
 have:=c a b H h
 rw[e,aG]at this;exact this.symm
def Mp (ht:zX t)(c:z9 t=(K:Int))(b:HS t K S):Sh S K:=by
 refine⟨λk h=>?_,λk h a H=>?_⟩<;>obtain⟨_,_,_,_,_,e⟩:=M6 ht c b h<;>rw[e]
 ·exact Wu
 ·rw[BI _ (jC (by rw[Wu];exact H)),Wu]
def yW (t:b0)(ks:b3):Prop:=∀a b c,a<t.length->b<t.length->c<t.length->at2 t a c∈ks->at2 t b c∈ks->at2 t a b∈ks
def W3 (ht:zX t)(n:z9 t=(K:Int))(p:HS t K S)(f:∀i∈ks,0<=i/\i<(K:Int)):kf S K ks=true↔yW t ks:=by
 have h0:kf S K ks=true↔∀k,k<K->∀i∈ks,∀j∈ks,((k:Int)∈ks∨at2 (S k) i.toNat j.toNat=0):=by
  unfold kf Yq QD;simp only[aX,List.mem_flatMap,bA,mem_map,id_eq]
  constructor
  ·intro h k f i l j g
   have:=h _ ⟨k,f,i,l,j,g,rfl⟩
   rw[bH,af,af]at this;exact this
  ·rintro h x ⟨k,f,i,l,j,g,rfl⟩
   rw[bH,af,af];exact h k f i l j g
 rw[h0]
 constructor
 ·intro h a b c d H m v u
  obtain⟨s,Q⟩:=kZ ht n d H;obtain⟨q,r⟩:=kZ ht n d m;obtain⟨s1,s2⟩:=kZ ht n H m;rcases h _ Q _ v _ u with h|h
  ·rw[s]at h
   exact h
  ·rw[<- p a b d H,j7,YT r s2,YD ht d H _ (ao _),q,s1]at h
   have:0<((List.range t.length).map λc=>(at2 t a c,at2 t b c)).count (at2 t a c,at2 t b c):=List.count_pos_iff.mpr (cz.mpr ⟨c,cx.mpr m,rfl⟩)
   omega
 ·intro h k o i l j g
  by_cases z:(k:Int)∈ks
  ·exact .inl z
  ·refine .inr ?_
   obtain⟨a,b,d,H,e,E⟩:=M6 ht n p o;obtain⟨C,I⟩:=f i l;obtain⟨B,J⟩:=f j g;rw[E,YT (by omega) (by omega),YD ht d H _ (ao _)]
   have:((List.range t.length).map λc=>(at2 t a c,at2 t b c)).count (((i.toNat:Nat):Int),((j.toNat:Nat):Int))=0:=by
    rw[List.count_eq_zero];intro hm;obtain⟨c,m,w⟩:=cz.mp hm;injection w with A y
    refine z (e ▸ h a b c d H (cx.mp m) ?_ ?_)
    ·rw[A,show((i.toNat:Nat):Int)=i by omega];exact l
    ·rw[y,show((j.toNat:Nat):Int)=j by omega];exact g
   omega
def Nt (ht:zX t):yW t [0]:=λa b c d H h f e=>by
 rw[List.mem_singleton]at*;have g:=(ht.dg a c d h).mp f;have E:=(ht.dg b c H h).mp e;exact(ht.dg a b d H).mpr (g.trans E.symm)
def AM (ht:zX t)(d:z9 t=(K:Int)):yW t ((List.range K).map λ(k:Nat)=>(k:Int)):=λa b c H h e _ _=>by
 obtain⟨Q,q⟩:=kZ ht d H h;exact cz.mpr ⟨_,cx.mpr q,Q⟩
def CJ (h:yW t ks)(h':yW t ls)(i:∀v,v∈q↔v∈ks/\v∈ls):yW t q:=λa b c e d H g f=>by
 rw[i]at*;exact⟨h a b c e d H g.1 f.1,h' a b c e d H g.2 f.2⟩
def jX (t:b0)(ks:b3)(a:Nat):b7:=(List.range t.length).filter λb=>decide (at2 t a b∈ks)
def Wv:b∈jX t ks a↔b<t.length/\at2 t a b∈ks:=by
 unfold jX;rw[bD,bA,af]
def iu (ht:zX t)(h:yW t ks)(f:a<t.length)(e:b<t.length)(d:at2 t a b∈ks):jX t ks a=jX t ks b:=by
 unfold jX;refine filter_congr λc H=>?_;have H:=cx.mp H;rw[Bool.eq_iff_iff,af,af]
 constructor
 ·intro z
  refine h b c a e H f ?_ ?_
  ·rw[ht.sy b a e f];exact d
  ·rw[ht.sy c a H f];exact z
 ·intro z
  refine h a c b f H e d ?_;rw[ht.sy c b H e];exact z
def DF (ht:zX t)(h:yW t ks)(f:a<t.length)(e:b<t.length)(d:c∈jX t ks a)(H:c∈jX t ks b):jX t ks a=jX t ks b:=by
 obtain⟨g,d⟩:=Wv.mp d;obtain⟨_,H⟩:=Wv.mp H;exact iu ht h f e (h a b c f e g d H)
def Ez {L:List (b7)}{W:Nat}(ht:zX t)(h:yW t ks)(h0:0∈ks)(nd:L.Nodup)(i:∀l∈L,∃a,a<t.length/\l=jX t ks a)(r:∀a,a<t.length->jX t ks a∈L)(s:∀a,a<t.length->(jX t ks a).length=W):L.length * W=t.length:=by
 have p:L.flatten.Perm (List.range t.length):=by
  refine(List.perm_ext_iff_of_nodup ?_ bX).mpr λc=>?_
  ·rw[List.nodup_iff_pairwise_ne,List.pairwise_flatten]
   refine⟨λl H=>?_,?_⟩
   ·obtain⟨a,_,rfl⟩:=i l H
    exact List.Pairwise.filter _ bX
   ·refine List.Pairwise.imp_of_mem (λ {l m} H hm ne x q y o e=>?_) nd
    subst e;obtain⟨a,d,rfl⟩:=i l H;obtain⟨b,j,rfl⟩:=i m hm;exact ne (DF ht h d j q o)
  ·rw[List.mem_flatten,bA]
   constructor
   ·rintro⟨l,H,f⟩
    obtain⟨a,_,rfl⟩:=i l H;exact(Wv.mp f).1
   ·intro f
    exact⟨_,r c f,Wv.mpr ⟨f,by rw[(ht.dg c c f f).mpr rfl];exact h0⟩⟩
 have e:=p.length_eq;rw[aE]at e;rw[<- e];have g:∀{M:List (b7)},(∀l∈M,l.length=W)->M.flatten.length=M.length * W:=by
  intro M
  induction M with
  |nil=>intro _;simp|cons l M I=>
   intro n;rw[aZ,aB,n l (ay ..),I λl H=>n l (aw _ H),aN,succ_mul,add_comm]
 exact(g λl H=>by obtain⟨a,d,rfl⟩:=i l H;exact s a d).symm
theorem Ox {r:b3}:∀{q:b3},q.Nodup->(q.map λk=>((r.count k:Nat):Int)).sum=((r.countP (λv=>decide (v∈q)):Nat):Int)
 |[],_=>by simp|k::q,nd=>by
  rw[nodup_cons]at nd;have h:∀r:b3,r.countP (λv=>decide (v∈k::q))=r.count k+r.countP λv=>decide (v∈q):=by
   intro r
   induction r with
   |nil=>rfl|cons x r i=>
    rw[bM,bM,List.count_cons,i]
    by_cases e:x=k
    ·subst e
     simp[nd.1];omega
    ·simp[e]
     omega
  rw[aF,List.sum_cons,Ox nd.2,h r];omega
def CQ (ht:zX t)(s:wY t)(H:a<t.length):(t.getD a []).Perm (t.getD 0 []):=by
 have n1:=ht.n1;have z:∀x,x<t.length->at2 t x x=0:=λx h=>(ht.dg x x h h).mpr rfl;have p:=(s a a 0 0 H H (by omega) (by omega) ((z a H).trans (z 0 (by omega)).symm)).map (·.1)
 unfold ZW at p;rw[aI,aI]at p;have e:∀x,x<t.length->((List.range t.length).map ((·.1) ∘ λc=>(at2 t x c,at2 t x c)))=t.getD x []:=λx h=>by
  have l:=ht.sq _ (jC h)
  have:=Je (d:=(0:Int)) (t.getD x [])
  rw[l]at this;exact this
 rw[e a H,e 0 (by omega)]at p
 exact p
def Bo (ht:zX t)(s:wY t)(h:a<t.length):(jX t ks a).length=(t.getD 0 []).countP λv=>decide (v∈ks):=by
 rw[<- (CQ ht s h).countP_eq];have H:=ht.sq _ (jC h)
 have:=Je (d:=(0:Int)) (t.getD a [])
 rw[H]at this
 conv=>rhs;rw[<- this]
 rw[List.countP_map,List.countP_eq_length_filter]
 rfl
variable {B:Hx}{L:List (b7)}
noncomputable abbrev jg (l:b7):b3:=l.map λ(b:Nat)=>(b:Int)
def Cb {l m:b7}(h:jg l=jg m):l=m:=List.map_inj_right (λ_ _ e=>Int.ofNat.inj e) |>.mp h
def Ax {x0 x2 x4:Option W}(ht:zX t)(m:a<t.length)(B:Hx):zH 2 [1] (j4 qg) (qP 0 1) (zi yn zt zI) (zF zj) [x0,some (zy ks),x2,some (zy (t.getD a [])),x4] B=.ok ((jg (jX t ks a)).map W.int) B:=by
 have n8:=ht.n8;have g:=ht.sq _ (jC m);have hw:((t.getD a []).map W.int).length=t.length:=by rw[ag,g]
 obtain⟨c,acc,D,e,_,f,H⟩:=YA (nl:=2) (cap:=[1]) (mi:=j4 qg) (tw:=qP 0 1) (ifs:=zi yn zt zI) (em:=zF zj) (N:=t.length) (ρ:=[x0,some (zy ks),x2,some (zy (t.getD a [])),x4]) (A:=B) (A1:=B)
  (I:=λi c acc D=>(∃Y y,c=[Y,y,some (zy ks)])/\D=B/\acc=(jg ((List.range i).filter λb=>decide (at2 t a b∈ks))).map W.int)
  (QS (zm rfl)) hw
  (λi c acc D j ⟨⟨Y,y,d⟩,f,H⟩=>by
   subst d f;have L:acc.length<zQ:=by
    rw[H,ag,ag]
    have:=bo (λb=>decide (at2 t a b∈ks)) (List.range i)
    rw[aE]at this;unfold zQ;omega
   refine⟨.tup [.int (i:Int),.int (at2 t a i)],[some (.int (i:Int)),some (.int (at2 t a i)),some (zy ks)],Q9 (int_at (by rw[g];exact j)),rfl,?_⟩
   have E:zi yn zt zI [some (.int (i:Int)),some (.int (at2 t a i)),some (zy ks)] D=.ok (.bl (decide (at2 t a i∈ks))) D:=(zS (zm rfl) (zm rfl)).trans (Y9 (b:=false) _ ks D)
   by_cases h:at2 t a i∈ks
   ·rw[aq h]at E
    refine .inl ⟨D,_,_,D,E,JL (zm rfl) L,⟨_,_,rfl⟩,rfl,?_⟩;rw[H,bf,bB,a9 (l:=[]) (by rw[aq h]),filter_nil]
    unfold jg;rw[aQ,aQ]
    rfl
   ·rw[ax h]at E
    refine .inr ⟨D,E,⟨_,_,rfl⟩,rfl,?_⟩;rw[H,bf,bB,bF (l:=[]) (by rw[ax h];simp),filter_nil,bI])
  (λc acc D _=>by rw[<- hw];exact Q5) ⟨⟨_,_,rfl⟩,rfl,rfl⟩
 subst f H;exact e
structure Gl (t:b0)(ks:b3)(i:Nat)(L:List (b7)):Prop where
 nd:L.Nodup
 of:∀l∈L,∃a,a<t.length/\l=jX t ks a
 all:∀a,a<i->jX t ks a∈L
 le:L.length<=i
def CI (ht:zX t)(A:Hx):∃L,Vh [zl t,zy ks] A=.ok (.ref A.length) (A++[pO (L.map jg)])/\Gl t ks t.length L:=by
 have n8:=ht.n8;have hw:(t.map zy).length=t.length:=ag ..;obtain⟨o,D,e,⟨y3,Y,L,c,q,b⟩⟩:=Qa (j:=⟨λA i=>(zW (zl t) A).map λws=>ws[i]?,t.length⟩) (st:=turn (zD 3) (zq (qe 4 (mQ jK (zH 2 [1] (j4 qg) (qP 0 1) (zi yn zt zI) (zF zj)))) (zq (qS (zi j0 qd zI) (zq (yj (yK kI zI qd)) zx) zx) zx))) (N:=t.length)
  (I:=λi ρ B=>∃y3 Y L,ρ=[some (zl t),some (zy ks),some (.ref 0),y3,Y]/\B=[pO (L.map jg)]/\Gl t ks i L)
  (λi ρ B f ⟨y3,Y,L,c,r,b⟩=>by
   subst c r;have le:=b.le;have m:mQ jK (zH 2 [1] (j4 qg) (qP 0 1) (zi yn zt zI) (zF zj)) [some (zl t),some (zy ks),some (.ref 0),some (zy (t.getD i [])),Y] [pO (L.map jg)]=.ok (zO (jg (jX t ks i))) [pO (L.map jg)]:=gJ (Ax ht f _);have E:zi j0 qd zI [some (zl t),some (zy ks),some (.ref 0),some (zy (t.getD i [])),some (zO (jg (jX t ks i)))] [pO (L.map jg)]=.ok (.bl (!decide (jX t ks i∈L))) [pO (L.map jg)]:=(zS (zm rfl) (zm rfl)).trans (Wq (xs:=L.map jg) rfl (by
    rw[af,mem_map];exact⟨λh=>⟨_,h,rfl⟩,λ⟨l,u,s⟩=>Cb s ▸ u⟩))
   have H:((zW (zl t) [pO (L.map jg)]).map λws=>ws[i]?)=some (some (zy (t.getD i []))):=by
    show some ((t.map zy)[i]?)=_;rw[k8 f]
   by_cases h:jX t ks i∈L
   ·rw[aq h]at E
    refine⟨_,_,_,H,(kX rfl).trans ((zP (qV m)).trans ((zP ((ye E).trans jo)).trans jo)),_,_,L,rfl,rfl,b.nd,b.of,λa H=>?_,by omega⟩
    rcases Nat.lt_succ_iff_lt_or_eq.mp H with H|rfl
    ·exact b.all a H
    ·exact h
   ·rw[ax h]at E
    have v:yK kI zI qd [some (zl t),some (zy ks),some (.ref 0),some (zy (t.getD i [])),some (zO (jg (jX t ks i)))] [pO (L.map jg)]=.ok .non [pO ((L++[jX t ks i]).map jg)]:=(Wz (n:=0) (ws:=(L.map jg).map zO) (zm rfl) rfl (zm rfl)).trans ((RD rfl (by rw[ag,ag];omega)).trans (by
     show R.ok W.non [O.lst ((L.map jg).map zO++[zO (jg (jX t ks i))])]=.ok .non [O.lst (((L++[jX t ks i]).map jg).map zO)];rw[aQ,aQ]
     rfl))
    refine⟨_,_,_,H,(kX rfl).trans ((zP (qV m)).trans ((zP ((Jd E).trans ((zP (wy v)).trans jo))).trans jo)),_,_,L++[jX t ks i],rfl,rfl,?_,λl d=>?_,λa H=>?_,by rw[aB];simp;omega⟩
    ·rw[List.nodup_append]
     refine⟨b.nd,List.pairwise_singleton _ _,λx p y g z=>?_⟩;rw[List.mem_singleton]at g;subst g z;exact h p
    ·rcases List.mem_append.mp d with d|d
     ·exact b.of l d
     ·exact⟨i,f,cC.mp d⟩
    ·rcases Nat.lt_succ_iff_lt_or_eq.mp H with H|rfl
     ·exact aY _ (b.all a H)
     ·exact aK _ (cC.mpr rfl))
  (λρ B _=>by
   show some ((t.map zy)[t.length]?)=_;rw[aD (by omega)]) t.length 0 [some (zl t),some (zy ks),some (.ref 0),none,none] [.lst []] (by omega) ⟨none,none,[],rfl,rfl,List.nodup_nil,(λl d=>by cases d),(λa H=>by omega),ao _⟩
 subst c q;refine⟨L,?_,b⟩;refine JV (k:=0) (A1:=[pO (L.map jg)]) (by show((zl t).nr&&((zy ks).nr&&true))=true;rw[QZ,YY];rfl) (qX ?_) rfl (W7 _)
 unfold P5;exact(zP (qV (kq (A:=[]) zV))).trans ((zP ((kU (hw ▸ Qj (ws:=t.map zy) (zm rfl))).trans e)).trans (qN (jh (zm rfl))))
def iw (ht:zX t)(H:z9 t=(K:Int))(s:yT t K=[])(e:HS t K S)(c:ks∈CL K)(hw:kf S K ks=true)(A:Hx):∃L,Wk [zl t,zy ks] A=.ok (.ref A.length) (A++[pO (L.map jg)])/\Gl t ks t.length L:=by
 have q:=jW ht;obtain⟨L,m,j⟩:=CI (ks:=ks) ht [];have nr:qH [zl t,zy ks]=true:=by show((zl t).nr&&((zy ks).nr&&true))=true;rw[QZ,YY];rfl
 obtain⟨o,n⟩:=k7 (by omega) c
 obtain⟨B,u⟩:=Qz (by omega) c
 have g:=Mp ht H e;have hlen:((List.range K).map λk=>zl (S k)).length=K:=by rw[ag,aE]
 have up:Up 0 ((K:Int)-1) ks:=⟨by omega,λv f=>by have:=B v f;omega,λi d=>by
  have p:ks.Pairwise (· < ·):=by
   rw[n,pairwise_map];exact(List.Pairwise.filter _ List.pairwise_lt_range).imp λh=>by omega
  rw[ab,aa (by omega),ab,aa d]
  exact List.pairwise_iff_getElem.mp p i (i+1) (by omega) d (by omega)⟩
 have r:Xb [zl t,zy ks] []=.ok .non []:=by
  have E:=Pu ht H e [];generalize a:([]:Hx)++[.lst ((List.range K).map λk=>zl (S k))]=C at E;have h0:C[0]? =some (.lst ((List.range K).map λk=>zl (S k))):=by rw[<- a];rfl
  have l:zi gg (mQ qQ (qo zI)) qh [some (zl t),some (zy ks),some (.ref 0)] C=.ok (.int ((K:Int)-1)) C:=(zS ((j3 (yY (zm rfl) (Qo h0))).trans rfl) qW).trans (by show R.ok (W.int ((((List.range K).map λk=>zl (S k)).length:Nat)-1)) _=_;rw[hlen])
  refine Zc (A1:=C) nr rfl (Vs (ρ:=[some (zl t),some (zy ks),some (.ref 0)]) ?_);unfold TF;refine(zP (qV ((qa (zG (zm rfl) zV)).trans E))).trans ((zP ((ye ?_).trans jo)).trans jo);refine(w5 (wQ (k:=true) ((qa (zG (zm rfl) (zG qW (zG l zV)))).trans (MB up C)))).trans ?_;refine(w5 ((zS qW (zm rfl)).trans ((Y9 (b:=true) 0 ks C).trans (by rw[aq o.1];rfl)))).trans ?_
  exact wQ (k:=true) ((qa (zG (zm rfl) (zG (zm rfl) zV))).trans ((keeps_F g (by omega) B (by omega) h0).trans (by rw[hw])))
 refine⟨L,?_,j⟩;refine JV (k:=0) (A1:=[pO (L.map jg)]) nr (qX ?_) rfl (W7 _);unfold Ru;refine(zP (wy ((qa (zG (zm rfl) zV)).trans (VP ht H s [])))).trans ?_;refine(zP (wy ((qa (zG (zm rfl) (zG (zm rfl) zV))).trans r))).trans ?_;exact qN (jh ((qa (zG (zm rfl) (zG (zm rfl) zV))).trans m))
end
noncomputable def QF (K:Nat)(ks:b3):b3:=(List.range K).map λ(k:Nat)=>if k=0 then 0 else if (k:Int)∈ks then 1 else 2
def UR (t:b0)(ks:b3):Bool:=(List.range t.length).all λa=>(List.range t.length).all λb=>decide (at2 t a b∈ks) || (List.range t.length).all λc=>!(decide (at2 t a c∈ks)&&decide (at2 t b c∈ks))
def GG (t:b0):Pg:=(CL (z9 t).toNat).filter (UR t)
def Jn (i:Nat):Bool:=decide ((GG (yA (jZ i))).length<64)&&(GG (yA (jZ i))).all λks=>WV (jf (yA (jZ i)) (QF (z9 (yA (jZ i))).toNat ks))
def iy:(List.range 9).all Jn=true:=by decide +kernel
def iz:((List.range 17).all λi=>Jn (9+i))=true:=by decide +kernel
def iA:Jn 26=true:=by decide +kernel
def iB:((List.range 7).all λi=>Jn (27+i))=true:=by decide +kernel
def NK (h:i<34):Jn i=true:=by
 by_cases h1:i<9
 ·exact cB.mp iy i (cx.mpr h1)
 ·by_cases a:i<26
  ·have:=cB.mp iz (i-9) (cx.mpr (by omega))
   rwa[show 9+(i-9)=i by omega]at this
  ·by_cases H:i=26
   ·rw[H];exact iA
   ·have:=cB.mp iB (i-27) (cx.mpr (by omega))
    rwa[show 27+(i-27)=i by omega]at this
noncomputable def rest (K:Nat)(ks:b3):b3:=((List.range (K-1)).filter λ(k:Nat)=>!decide (1+(k:Int)∈ks)).map λ(k:Nat)=>1+(k:Int)
def twoP (K:Nat)(ks:b3):Pg:=ZN ([ks.drop 1,rest K ks].filter λq=>!decide (q=[]))
def cD (K:Nat)(ks:b3):Bool:=GS K (twoP K ks)&&GN K (twoP K ks)&&[((1:Int),(2:Int)),(2,1)].any λx=>(List.range K).all λ(k:Nat)=>decide ((jm K (twoP K ks)).getD k 0=if k=0 then 0 else if (k:Int)∈ks then x.1 else x.2)
def tw_all:((List.range 8).all λK=>(CL (K+1)).all (cD (K+1))&&decide (CL (K+1)).Nodup)=true:=by decide +kernel
section
variable {T:b0}{a b c e k K m v:Nat}{p o:b7}{q ks ls:b3}
def Kg:(qU p).getD 0 0=0:=rfl
def Mx (H:p.Perm (List.range m))(b:k<=m):0<=(qU p).getD k 0/\(qU p).getD k 0<=(m:Int):=by
 have a:p.length=m:=by rw[H.length_eq,aE]
 by_cases h:k=0
 ·subst h
  rw[Kg];omega
 ·rw[Qi (by omega) (by omega)]
  have:=cx.mp (H.mem_iff.mp (aS (l:=p) (n:=k-1) (by omega)))
  omega
def OZ (H:p.Perm (List.range m))(a:v<=m):∃k,k<=m/\(qU p).getD k 0=(v:Int):=by
 have l:p.length=m:=by rw[H.length_eq,aE]
 by_cases h:v=0
 ·exact⟨0,by omega,by rw[Kg,h];rfl⟩
 ·obtain⟨i,b,e⟩:=aW (H.mem_iff.mpr (cx.mpr (show v-1<m by omega)))
  refine⟨i+1,by omega,?_⟩
  rw[Qi (by omega) (by omega)]
  have:p[i+1-1]'(by omega)=v-1:=e
  rw[this];omega
structure Tn (T t:b0)(K:Nat)(p o:b7):Prop where
 hT:zX T
 ht:zX t
 kT:z9 T=(K:Int)
 kt:z9 t=(K:Int)
 len:t.length=T.length
 pp:p.Perm (List.range (K-1))
 oo:o.Perm (List.range T.length)
 at_:∀a b,a<T.length->b<T.length->at2 t a b=(qU p).getD (at2 T (o.getD a 0) (o.getD b 0)).toNat 0
def Ym (h:o.Perm (List.range n))(b:a<n):o.getD a 0<n:=by
 have H:o.length=n:=by rw[h.length_eq,aE]
 rw[ab,aa (by omega)]
 exact cx.mp (h.mem_iff.mp (aS _))
def Ki (h:o.Perm (List.range n))(d:a<n):∃b,b<n/\o.getD b 0=a:=by
 have H:o.length=n:=by rw[h.length_eq,aE]
 obtain⟨i,c,e⟩:=aW (h.mem_iff.mpr (cx.mpr d));exact⟨i,by omega,by rw[ab,aa c];exact e⟩
def PM (h:Known t):∃i K p o,i<34/\Tn (yA (jZ i)) t K p o:=by
 obtain⟨i,p,o,m,j,c,rfl⟩:=h;have hT:=(Vy m).1
 suffices z:∃K,Tn (yA (jZ i)) (wz (yA (jZ i)) p o) K p o from let ⟨K,h⟩:=z;⟨i,K,p,o,m,h⟩
 generalize yA (jZ i)=T at*;obtain⟨ht,l⟩:=X5 hT j c;have r:=jW hT;obtain⟨K,g⟩:∃K:Nat,z9 T=(K:Int):=⟨(z9 T).toNat,by omega⟩
 have H:p.Perm (List.range (K-1)):=by rwa[g,show((K:Int)-1).toNat=K-1 by omega]at j
 have at_:∀a b,a<T.length->b<T.length->at2 (wz T p o) a b=(qU p).getD (at2 T (o.getD a 0) (o.getD b 0)).toNat 0:=λa b f d=>P7 c f d;refine⟨K,hT,ht,g,?_,l,H,c,at_⟩
 apply Int.le_antisymm
 ·obtain⟨a,b,f,d,e⟩:=WQ ht.sq (Y1 ht)
  rw[l]at f d;rw[at_ a b f d]at e
  have:=(Mx H (k:=(at2 T (o.getD a 0) (o.getD b 0)).toNat) (by have:=(kZ hT g (Ym c f) (Ym c d)).2;omega)).2
  omega
 ·obtain⟨k,s,e⟩:=OZ H (v:=K-1) (ao _)
  obtain⟨x,y,q,n,E⟩:=Kb hT (v:=k) (by omega)
  obtain⟨a,f,rfl⟩:=Ki c q;obtain⟨b,d,rfl⟩:=Ki c n
  have:=JY ht (a:=a) (b:=b) (by omega) (by omega)
  rw[at_ a b f d,E,aG,e]at this;omega
def kF (K:Nat)(p:b7)(ks:b3):b3:=((List.range K).filter λk=>decide ((qU p).getD k 0∈ks)).map λ(k:Nat)=>(k:Int)
def Vb:(k:Int)∈kF K p ks↔k<K/\(qU p).getD k 0∈ks:=by
 unfold kF;rw[mem_map]
 constructor
 ·rintro⟨j,H,e⟩
  rw[bD,bA,af]at H
  have:j=k:=by omega
  exact this ▸ H
 ·intro h
  exact⟨k,by rw[bD,bA,af];exact h,rfl⟩
def iC (h:Tn T t K p o)(j:yW t ks):yW T (kF K p ks):=by
 have g:∀a b,a<T.length->b<T.length->(at2 T (o.getD a 0) (o.getD b 0)∈kF K p ks↔at2 t a b∈ks):=λa b d H=>by
  obtain⟨i,f⟩:=kZ h.hT h.kT (Ym h.oo d) (Ym h.oo H);rw[<- i,Vb,h.at_ a b d H];exact⟨λz=>z.2,λz=>⟨f,z⟩⟩
 intro a b c d H e;obtain⟨a,X,rfl⟩:=Ki h.oo d;obtain⟨b,x,rfl⟩:=Ki h.oo H;obtain⟨c,xc,rfl⟩:=Ki h.oo e;rw[g a c X xc,g b c x xc,g a b X x]
 have:=h.len
 exact j a b c (by omega) (by omega) (by omega)
def A8 (h:yW T ks):UR T ks=true:=by
 unfold UR;simp only[aX,bA];intro a f b e
 by_cases z:at2 T a b∈ks
 ·rw[aq z];rfl
 ·rw[ax z,Bool.false_or]
  simp only[aX,bA];intro c H
  by_cases d:at2 T a c∈ks
  ·by_cases Z:at2 T b c∈ks
   ·exact absurd (h a b c f e H d Z) z
   ·rw[ax Z,Bool.and_false];rfl
  ·rw[ax d];rfl
def NM (h:Tn T t K p o)(a:1<=K)(h0:0∈ks)(H:yW t ks):kF K p ks∈GG T:=by
 unfold GG;rw[h.kT,aG,bD];exact⟨Gb (by rw[af,Kg];exact h0) a,A8 (iC h H)⟩
theorem NC  [DecidableEq α]:∀{l m:List α},l.Nodup->(∀x∈l,x∈m)->l.length<=m.length
 |[],_,_,_=>bR _|x::l,m,nd,h=>by
  rw[nodup_cons]at nd;have a:=h x (ay ..)
  have:=NC (l:=l) (m:=m.erase x) nd.2 λy H=>(List.mem_erase_of_ne (λ(e:y=x)=>nd.1 (e ▸ H))).mpr (h y (aw _ H))
  rw[List.length_erase_of_mem a]at this
  have:0<m.length:=List.length_pos_of_mem a
  rw[aN];omega
def Ag (h:Tn T t K p o)(c:1<=K)(b:ks∈CL K)(d:ls∈CL K)(e:kF K p ks=kF K p ls):ks=ls:=by
 obtain⟨_,i⟩:=k7 c b;obtain⟨_,f⟩:=k7 c d;rw[i,f]
 congr 1
 refine filter_congr λv a=>?_;have a:=cx.mp a;obtain⟨k,b,E⟩:=OZ h.pp (v:=v) (by omega)
 have H:k<K:=by omega
 have g:∀l:b3,(v:Int)∈l↔(k:Int)∈kF K p l:=λl=>by rw[Vb,E];exact⟨λz=>⟨H,z⟩,λz=>z.2⟩
 rw[Bool.eq_iff_iff,af,af,g ks,g ls,e]
def iD (d:Known t)(l:z9 t=(K:Int)){f:List Int->Bool}(hf:∀ks∈CL K,f ks=true->yW t ks):((CL K).filter f).length<64:=by
 obtain⟨i,a,p,o,g,h⟩:=PM d
 have:a=K:=by have:=h.kt;omega
 subst this;have j:=jW h.ht;have b:1<=a:=by omega
 have hn:=NK g;unfold Jn at hn;rw[ak,af]at hn;have nd:(CL a).Nodup:=by
  have:=cB.mp tw_all (a-1) (cx.mpr (by omega))
  rw[show a-1+1=a by omega,ak,af]at this
  exact this.2
 refine bT ?_ hn.1;rw[<- ag (f:=kF a p)];refine NC ?_ λx H=>?_
 ·rw[List.nodup_iff_pairwise_ne,pairwise_map]
  refine List.Pairwise.imp_of_mem (λ {x y} H c ne e=>ne ?_) (nd.filter f);exact Ag h b (List.mem_filter.mp H).1 (List.mem_filter.mp c).1 e
 ·obtain⟨ks,s,rfl⟩:=cz.mp H
  obtain⟨z,Z⟩:=List.mem_filter.mp s;exact NM h b (k7 b z).1.1 (hf ks z Z)
def two_steady {x y:Int}(A:Known t)(Y:z9 t=(K:Int))(h0:0∈ks)(N:yW t ks)(X:x≠0)(U:y≠0)(E:x≠y)(J:∀k,k<K->l.getD k 0=if k=0 then 0 else if (k:Int)∈ks then x else y):wY (jf t l):=by
 obtain⟨i,d,p,o,M,h⟩:=PM A
 have:d=K:=by have:=h.kt;omega
 subst this;have S:=jW h.ht;have P:1<=d:=by omega
 have hn:=NK M;unfold Jn at hn;rw[ak,aX]at hn;have s:=RA (hn.2 _ (NM h P h0 N));rw[h.kT,aG]at s;generalize yA (jZ i)=T at*;have len:=h.len;have hm:∀(t:b0)(l:b3),(jf t l).length=t.length:=λt l=>by unfold jf;rw[ag]
 have r:p.Nodup:=(h.pp.nodup_iff).mpr bX;have I:p.length=d-1:=by rw[h.pp.length_eq,aE]
 have L:∀k,k<d->(QF d (kF d p ks)).getD k 0=if k=0 then 0 else if (k:Int)∈kF d p ks then 1 else 2:=λk A=>by
  unfold QF;rw[ab,av,a6 A]
  rfl
 have B:∀a b,a<T.length->b<T.length->at2 (jf T (QF d (kF d p ks))) a b=if (at2 T a b).toNat=0 then 0 else if (qU p).getD (at2 T a b).toNat 0∈ks then 1 else 2:=λa b j H=>by
  obtain⟨D,n⟩:=kZ h.hT h.kT j H;rw[Q4 h.hT j H,L _ n];have g:=Vb (k:=(at2 T a b).toNat) (K:=d) (p:=p) (ks:=ks)
  by_cases z:(qU p).getD (at2 T a b).toNat 0∈ks
  ·rw[ah z,ah (g.mpr ⟨n,z⟩)]
  ·rw[aj z,aj λw=>z (g.mp w).2]
 refine Py (v:=jf T (QF d (kF d p ks))) (o:=o) (f:=λv=>if v=0 then 0 else if v=1 then x else y) (by rw[hm,hm,len]) (by rw[hm];exact h.oo) (λa b j H=>?_) (λa b c e j H m he q=>?_) s
 ·rw[hm]at j H
  have C:=Ym h.oo j;have ob:=Ym h.oo H;obtain⟨D,n⟩:=kZ h.hT h.kT C ob;rw[B _ _ C ob,Q4 h.ht (by omega) (by omega),h.at_ a b j H]
  generalize (at2 T (o.getD a 0) (o.getD b 0)).toNat=k at D n;obtain⟨n1,Q⟩:=Mx h.pp (k:=k) (by omega)
  rw[J _ (by omega),show((((qU p).getD k 0).toNat:Nat):Int)=(qU p).getD k 0 by omega]
  by_cases z:k=0
  ·subst z
   rw[Kg]
   rfl
  ·have:¬((qU p).getD k 0).toNat=0:=λw=>z (Nq r (u:=k) (v:=0) (by omega) (by omega) (by rw[Kg];omega))
   rw[aj this,aj z]
   by_cases w:(qU p).getD k 0∈ks
   ·rw[ah w,ah w];simp
   ·rw[aj w,aj w];simp
 ·rw[hm]at j H m he
  have g:∀a b,a<T.length->b<T.length->at2 (jf T (QF d (kF d p ks))) a b=0∨at2 (jf T (QF d (kF d p ks))) a b=1∨at2 (jf T (QF d (kF d p ks))) a b=2:=λa b j H=>by
   rw[B a b j H]
   split
   ·exact .inl rfl
   ·split
    ·exact .inr (.inl rfl)
    ·exact .inr (.inr rfl)
  rcases g a b j H with z|z|z<;>rcases g c e m he with w|w|w<;>rw[z,w]at q ⊢<;>simp at q<;>first|(exfalso;omega)|rfl
end
theorem O7:∀(l:b3)(s:Int),yL l s=s+l.sum
 |[],s=>by simp[yL]|v::l,s=>by
  show yL l (s+v)=_;rw[O7 l,List.sum_cons];omega
def BY (l:b3):w9 (l.map W.int) A=.ok (.int l.sum) A:=by
 unfold w9;rw[Zy];dsimp only;rw[O7,Int.zero_add]
section
variable {B C:Hx}{a b e k K m:Nat}{q ks:b3}{S:Nat->List (b3)}
def iE {nl:Nat}{m:Ei}{ifs:Ev}(h:mi ρ A=m ρ B):zH nl cap mi tw ifs em ρ A=zH nl cap m tw ifs em ρ B:=by
 unfold zH;rw[h]
structure Tw (K:Nat)(ks:b3):Prop where
 ok:QI K (twoP K ks)
 pt:Yn K (twoP K ks)
 xy:∃x y:Int,x≠0/\y≠0/\x≠y/\∀k,k<K->(jm K (twoP K ks)).getD k 0=if k=0 then 0 else if (k:Int)∈ks then x else y
def tw_of (c:1<=K)(b:K<=8)(a:ks∈CL K):Tw K ks:=by
 have:=cB.mp tw_all (K-1) (cx.mpr (by omega))
 rw[show K-1+1=K by omega,ak,aX]at this
 have h:=this.1 ks a;unfold cD at h;rw[ak,ak,List.any_eq_true]at h;obtain⟨⟨Z,z⟩,x,H,h⟩:=h;refine⟨ND Z,NL z,x.1,x.2,?_⟩;have l:∀k,k<K->(jm K (twoP K ks)).getD k 0=if k=0 then 0 else if (k:Int)∈ks then x.1 else x.2:=λk a=>of_decide_eq_true (cB.mp h k (cx.mpr a));rcases cy.mp H with rfl|H
 ·exact⟨by decide,by decide,by decide,l⟩
 ·rcases cy.mp H with rfl|H
  ·exact⟨by decide,by decide,by decide,l⟩
  ·cases H
def two_brs (a:Known t)(ht:zX t)(H:z9 t=(K:Int))(c:yW t ks)(h:ks∈CL K):yT (jf t (jm K (twoP K ks))) ((twoP K ks).length+1)=[]:=by
 have g:=jW ht;have w:=tw_of (by omega) (by omega) h
 obtain⟨x,y,f,e,d,b⟩:=w.xy;exact YS (YV ht H w.ok).1 (two_steady a H (k7 (by omega) h).1.1 c f e d b)
def iF {k:Int}(hn:A[n]? =some (.lst ((jw t K).map W.int)))(h:0<=k/\k<(K:Int)):zM (.ref n) (.int k) A=.ok (.int (((t.getD 0 []).count k:Nat):Int)) A:=by
 obtain⟨j,rfl⟩:∃j:Nat,k=(j:Int):=⟨k.toNat,by omega⟩
 refine JR hn ?_;unfold jw;rw[aI,av,a6 (by omega)]
 rfl
def NO {m:Ev}{cap:Nat}(hm:m ρ A=.ok (zO q) A)(hn:A[n]? =some (.lst ((jw t K).map W.int)))(c:ρ[cap]? =some (some (.ref n)))(h:∀k∈q,0<=k/\k<(K:Int))(a:q.length<=8)(nd:q.Nodup):mQ w9 (zH 1 [cap] (zN m) (zD 0) zT (zF (zi zM zt zj))) ρ A=.ok (.int (((t.getD 0 []).countP (λv=>decide (v∈q)):Nat):Int)) A:=by
 have e:=QW (cap:=[cap]) (ws:=q.map W.int) (me:=zi zM zt zj) (g:=λw=>match w with|.int k=>.int (((t.getD 0 []).count k:Nat):Int)|_=>.non) hm (by rw[ag];unfold zQ;omega) (λw hw=>by
  obtain⟨k,H,rfl⟩:=cz.mp hw;exact(zS (zm (w:=.ref n) (by show some ((ρ[cap]?).join)=_;rw[c];rfl)) (zm rfl)).trans (iF hn (h k H)))
 refine(j3 e).trans ?_;rw[aI,<- Ox nd,<- BY,aI]
 rfl
def iG (U:Known t)(ht:zX t)(o:z9 t=(K:Int))(Y:HS t K S)(H:ks∈CL K)(hw:kf S K ks=true)(A:Hx):QL [zl t,zy ks] A=.ok (.bl true) A:=by
 have kb:=jW ht;have st:=Wa U;have s:yT t K=[]:=YS ht st;obtain⟨b1,b2⟩:=Qz (by omega) H
 obtain⟨c1,c2⟩:=k7 (by omega) H
 have X:=(W3 ht o Y b1).mp hw;have w:=tw_of (by omega) (by omega) H
 have nd:ks.Nodup:=by
  rw[c2,List.nodup_iff_pairwise_ne,pairwise_map];exact(List.Pairwise.filter _ bX).imp λh e=>h (by omega)
 obtain⟨L,e1,p⟩:=iw ht o s Y H hw [];have e2:=Vi ht o s ([]++[pO (L.map jg)]);have n8:=ht.n8;have y:∀a,a<t.length->(jX t ks a).length=(t.getD 0 []).countP λv=>decide (v∈ks):=λa J=>Bo ht st J;have lm:=Ez ht X c1.1 p.nd p.of p.all y;have lL:=p.le;have h0:([]++[pO (L.map jg)]++[.lst ((jw t K).map W.int)])[0]? =some (pO (L.map jg)):=rfl;have Z:([]++[pO (L.map jg)]++[.lst ((jw t K).map W.int)])[1]? =some (.lst ((jw t K).map W.int)):=rfl;have e3:qM (zh (zC Wk (zh zj (zh zt zo))) (zh (zC Q0 (zh zj zo)) zo)) [some (zl t),some (zy ks),none,none,none,none,none] []=.ok (.tup [.ref 0,.ref 1]) ([]++[pO (L.map jg)]++[.lst ((jw t K).map W.int)]):=
  g9 (zG ((qa (zG (zm rfl) (zG (zm rfl) zV))).trans e1) (zG ((qa (zG (zm rfl) zV)).trans e2) zV))
 generalize hC:([]:Hx)++[pO (L.map jg)]++[.lst ((jw t K).map W.int)]=C at e3 h0 Z;have e4:=NO (m:=zt) (cap:=3) (ρ:=[some (zl t),some (zy ks),some (.ref 0),some (.ref 1),none,none,none]) (q:=ks) (zm rfl) Z rfl b1 (by omega) nd
 generalize hW:(t.getD 0 []).countP (λv=>decide (v∈ks))=f at y lm e4;have c:((L.map jg).map zO).length=L.length:=by rw[ag,ag]
 have e5:=yN (QR (cap:=[4]) (ρ:=[some (zl t),some (zy ks),some (.ref 0),some (.ref 1),some (.int (f:Int)),none,none]) (A:=C) (mi:=zN zI) (ifs:=zi qR (mQ qQ (qo zj)) zt) (me:=zj) (N:=L.length) (item:=λj=>zO ((L.map jg).getD j [])) (g:=λj=>.non) (keep:=λ_=>false) (c ▸ wU (zm rfl) h0) rfl (by unfold zQ;omega)
  (λj d=>ZK h0 (k8 (t:=L.map jg) (by rw[ag];exact d))) (ZL h0 (by rw[c];exact ao _))
  (λj d=>by
   have hm:=jC (t:=L.map jg) (a:=j) (by rw[ag];exact d)
   obtain⟨l,hl,el⟩:=cz.mp hm;obtain⟨a,J,rfl⟩:=p.of l hl;have len:((L.map jg).getD j []).length=f:=by rw[<- el,ag,y a J]
   refine(zS (My (ws:=((L.map jg).getD j []).map W.int) rfl) (zm rfl)).trans ((UX _ _ C).trans ?_);rw[ag,len,aq rfl]
   rfl)
  (λj d z=>by cases z))
 rw[List.filter_eq_nil_iff.mpr (λ_ _ z=>by cases z),map_nil]at e5
 have e6:zi qR (qm (zH 1 [4] (zN zI) (zD 0) (zi qR (mQ qQ (qo zj)) zt) (zF zj))) (qF zo) [some (zl t),some (zy ks),some (.ref 0),some (.ref 1),some (.int (f:Int)),none,none] C=.ok (.bl false) (C++[.lst []]++[.lst []]):=
  (zS e5 (kq zV)).trans (Mo (QV (n:=C.length) (k:=7) (ws:=[]) (ds:=[]) (qZ qI) rfl) (QV (k:=7) (ws:=[]) (ds:=[]) qI rfl) rfl)
 have r:(C++[.lst []]++[.lst []])[0]? =some (pO (L.map jg)):=qZ (qZ h0);generalize C++[.lst []]++[.lst []]=D at e6 r;have e7:zi qR (zi ji (mQ qQ (qo zI)) qd) (mQ qQ (qo zj)) [some (zl t),some (zy ks),some (.ref 0),some (.ref 1),some (.int (f:Int)),none,none] D=.ok (.bl false) D:=by
  refine(zS ((zS ((j3 (yY (zm rfl) (Qo r))).trans rfl) (zm rfl)).trans (J4 (i:=(((L.map jg).map zO).length:Nat)) (by omega) (by rw[c];omega))) (fZ rfl)).trans ((UX _ _ D).trans ?_)
  rw[c,aq (by rw[<- lm];push_cast;rfl)]
  rfl
 have T:=Vt (m:=qh) (m':=zC gZ (zh zj zo)) (ρ:=[some (zl t),some (zy ks),some (.ref 0),some (.ref 1),some (.int (f:Int)),none,none]) (A:=D) (A1:=D) (A2:=D) (i:=1) (j:=(K:Int)) qW ((qa (zG (zm rfl) zV)).trans (Vz ht o D)) (by decide) (gC (by omega))
 rw[show((K:Int)-1).toNat=K-1 by omega]at T
 have e8:=gJ (QR (N:=K-1) (cap:=[1]) (ifs:=zi WZ zj zt) (me:=zj) (keep:=λ(k:Nat)=>!decide (1+(k:Int)∈ks)) (item:=λk=>.int (1+(k:Int))) (g:=λk=>.int (1+(k:Int))) T rfl (by unfold zQ;omega) (λi I=>Qm I) (Qg (by omega)) (λi I=>(zS (zm rfl) (zm rfl)).trans (Y9 (b:=true) _ ks D)) (λi I _=>zm rfl))
 have er:(((List.range (K-1)).filter λ(k:Nat)=>!decide (1+(k:Int)∈ks)).map λ(k:Nat)=>W.int (1+(k:Int)))=(rest K ks).map W.int:=by unfold rest;rw[aI];rfl
 rw[er]at e8;have e9:zN (qF (zh (kz zt (wc qh) we) (zh qT zo))) [some (zl t),some (zy ks),some (.ref 0),some (.ref 1),some (.int (f:Int)),some (zO (rest K ks)),none] D=zN (qi (.ref D.length)) [some (zl t),some (zy ks),some (.ref 0),some (.ref 1),some (.int (f:Int)),some (zO (rest K ks)),none] (D++[pO [ks.drop 1,rest K ks]]):=by
  have:qF (zh (kz zt (wc qh) we) (zh qT zo)) [some (zl t),some (zy ks),some (.ref 0),some (.ref 1),some (.int (f:Int)),some (zO (rest K ks)),none] D=.ok (.ref D.length) (D++[pO [ks.drop 1,rest K ks]]):=
   (kq (zG (N4 (ws:=ks.map W.int) (zm rfl)) (zG (zm rfl) zV))).trans (by rw[<- List.map_drop];rfl)
  unfold zN;rw[this,qW]
 have E:=yN ((iE e9).trans (QR (cap:=[]) (ifs:=zi qR zj (qM zo)) (me:=zj) (N:=2) (keep:=λj=>!decide ([ks.drop 1,rest K ks].getD j []=[])) (item:=λj=>zO ([ks.drop 1,rest K ks].getD j [])) (g:=λj=>zO ([ks.drop 1,rest K ks].getD j [])) (wU qW qI) rfl (by unfold zQ;omega)
  (λj d=>ZK qI (k8 (t:=[ks.drop 1,rest K ks]) d)) (ZL qI (by rw[ag];exact ao _))
  (λj d=>(zS (zm rfl) (g9 zV)).trans (Lg _ [] _)) (λj d _=>zm rfl)))
 have ef:(((List.range 2).filter λj=>!decide ([ks.drop 1,rest K ks].getD j []=[])).map λj=>zO ([ks.drop 1,rest K ks].getD j []))=([ks.drop 1,rest K ks].filter λq=>!decide (q=[])).map zO:=by
  rw[<- UG (x:=[]) [ks.drop 1,rest K ks],aI]
  rfl
 rw[ef]at E;have Q:=PY E qI (λq hq z=>by
  have:=(List.mem_filter.mp hq).2
  rw[z]at this;cases this) (bT (bo _ _) (show 2<64 by omega))
 obtain⟨B,P,_⟩:=NW ht o w.pt w.ok (qI (A:=D++[pO [ks.drop 1,rest K ks]]++[pO ([ks.drop 1,rest K ks].filter λq=>!decide (q=[]))]) (u:=pO (twoP K ks)));obtain⟨m1,m2⟩:=YV ht o w.ok;have M:=NI m1 m2 (two_brs U ht o X H) B;refine Zc (A1:=B) (by show((zl t).nr&&((zy ks).nr&&true))=true;rw[QZ,YY];rfl) rfl (qX ?_)
 unfold Ta;refine(zP (Vm e3 rfl)).trans ?_;refine(zP (qV e4)).trans ?_;refine(zP ((ye ((w5 e6).trans e7)).trans jo)).trans ?_;refine(zP (qV e8)).trans ?_;refine(zP (qV Q)).trans ?_;exact qN (jh ((zS ((qa (zG ((qa (zG (zm rfl) (zG (zm rfl) zV))).trans P) zV)).trans M) qW).trans rfl))
end
def Ld (K:Nat)(p:Pg):Bool:=GN K p&&(p.all λq=>decide q.Nodup)&&(List.range p.length).all λj=>(List.range K).all λk=>decide ((jm K p).getD k 0=((j+1:Nat):Int))==decide ((k:Int)∈p.getD j [])
noncomputable def gc (K:Nat):Pg:=(List.range (K-1)).map λ(k:Nat)=>[1+(k:Int)]
noncomputable def Yc (K:Nat):Pg:=[(List.range (K-1)).map λ(k:Nat)=>1+(k:Int)]
def M7:((List.range 6).all λk=>((PL (k+1)).all (Ld (k+1))&&decide (gc (k+1)∈PL (k+1))&&decide (jm (k+1) (gc (k+1))=(List.range (k+1)).map λ(v:Nat)=>(v:Int)))&&(k==0 || decide (Yc (k+1)∈PL (k+1))&&decide (twoP (k+1) [0]=Yc (k+1))))=true:=by decide +kernel
section
variable {B C:Hx}{b k K m:Nat}{q:b3}{p:Pg}
structure Lp (K:Nat)(p:Pg):Prop where
 pt:Yn K p
 nd:∀q∈p,q.Nodup
 at_:∀j,j<p.length->∀k,k<K->((jm K p).getD k 0=((j+1:Nat):Int)↔(k:Int)∈p.getD j [])
def iH (e:1<=K)(d:K<=6)(a:p∈PL K):Lp K p:=by
 have:=cB.mp M7 (K-1) (cx.mpr (by omega))
 rw[show K-1+1=K by omega,ak,ak,ak,aX]at this
 have h:=this.1.1.1 p a;unfold Ld at h;rw[ak,ak,aX,aX]at h;refine⟨NL h.1.1,λq H=>of_decide_eq_true (h.1.2 q H),λj c k b=>?_⟩
 have:=cB.mp (h.2 j (cx.mpr c)) k (cx.mpr b)
 rw[aV]at this;exact decide_eq_decide.mp this
def iI (ht:zX t)(f:z9 t=(K:Int))(h:Lp K p):(jw (jf t (jm K p)) (p.length+1)).drop 1=(List.range p.length).map λj=>(((t.getD 0 []).countP (λv=>decide (v∈p.getD j [])):Nat):Int):=by
 have n1:=ht.n1;unfold jw;rw[List.range_succ_eq_map,aF,List.drop_one,List.tail_cons,aI];refine aL λj H=>?_;have H:=cx.mp H;show(((jf t (jm K p)).getD 0 []).count ((j+1:Nat):Int):Int)=_;have E:(jf t (jm K p)).getD 0 []=(t.getD 0 []).map λv=>(jm K p).getD v.toNat 0:=by
  unfold jf;rw[ab,av,ab,aa n1]
  rfl
 rw[E,List.count_eq_countP,List.countP_map]
 congr 1
 refine List.countP_congr λv d=>?_;have l:=ht.sq _ (jC n1);obtain⟨b,e,rfl⟩:=aW d;obtain⟨c,a⟩:=kZ ht f n1 (show b<t.length by omega)
 have g:(t.getD 0 [])[b]=at2 t 0 b:=by unfold at2;rw[ab (i:=b),aa e];rfl
 show((jm K p).getD ((t.getD 0 [])[b]).toNat 0==((j+1:Nat):Int))=true↔_;rw[g,aV,af,h.at_ j H _ a,c]
def iJ (f:Known t)(ht:zX t)(H:z9 t=(K:Int))(o:K<=6)(l:p∈PL K)(I:Zs t K p=true)(hn:A[n]? =some (pO p)):∃B,Z6 [zl t,.ref n] A=.ok (.bl true) B/\Ext A B:=by
 have S:=jW ht;have s:yT t K=[]:=YS ht (Wa f);have h:=iH (by omega) o l
 have ok:=(Uc (K:=K) (by omega) o).2.2 p l
 have l8:=h.pt.l8;obtain⟨U,c⟩:=YV ht H ok;have us:yT (jf t (jm K p)) (p.length+1)=[]:=List.isEmpty_iff.mp I;have sz:=iI ht H h;obtain⟨A1,Q,x1⟩:=NW ht H h.pt ok hn;have n1:=x1.at hn;generalize jf t (jm K p)=u at*;obtain⟨A2,P,x2⟩:=ik ht H h.pt n1;have z:=x2.at n1;have y:=Vi ht H s A2;have x:=Vi U c us (A2++[.lst ((jw t K).map W.int)]);have e:(A2++[.lst ((jw t K).map W.int)]++[.lst ((jw u (p.length+1)).map W.int)])[n]? =some (pO p):=qZ (qZ z);have g3:(A2++[.lst ((jw t K).map W.int)]++[.lst ((jw u (p.length+1)).map W.int)])[A2.length]? =some (.lst ((jw t K).map W.int)):=qZ qI;have i:(A2++[.lst ((jw t K).map W.int)]++[.lst ((jw u (p.length+1)).map W.int)])[(A2++[O.lst ((jw t K).map W.int)]).length]? =some (.lst ((jw u (p.length+1)).map W.int)):=qI;have x4:Ext A (A2++[.lst ((jw t K).map W.int)]++[.lst ((jw u (p.length+1)).map W.int)]):=(x1.trans x2).trans (Ext.one.trans Ext.one);generalize A2.length=a at y g3;generalize (A2++[O.lst ((jw t K).map W.int)]).length=r at x i;have w:qM (zh (zC Q0 (zh zj zo)) (zh (zC Q0 (zh zI zo)) zo)) [some (zl t),some (.ref n),some (zl u),none,none] A2=.ok (.tup [.ref a,.ref r]) (A2++[.lst ((jw t K).map W.int)]++[.lst ((jw u (p.length+1)).map W.int)]):=
  g9 (zG ((qa (zG (zm rfl) zV)).trans y) (zG ((qa (zG (zm rfl) zV)).trans x) zV))
 generalize A2++[.lst ((jw t K).map W.int)]++[.lst ((jw u (p.length+1)).map W.int)]=C at w e g3 i x4;have hw:(p.map zO).length=p.length:=ag ..;have M:zi jd (zC gZ (zh zI zo)) (zi qY qh (mQ qQ (qo zt))) [some (zl t),some (.ref n),some (zl u),some (.ref a),some (.ref r)] C=.ok (.bl true) C:=by
  refine(zS ((qa (zG (zm rfl) zV)).trans (Vz U c C)) ((zS qW ((j3 (yY (zm rfl) (Qo e))).trans rfl)).trans rfl)).trans ((Yo _ _ C).trans ?_);rw[aq];show((p.length+1:Nat):Int)=1+((p.map zO).length:Nat);rw[hw];omega
 have q:=NY (m:=qd) (ρ:=[some (zl t),some (.ref n),some (zl u),some (.ref a),some (.ref r)]) (A:=C) (zm rfl) i;rw[<- List.map_drop,sz]at q;have d:=qZ (u:=.lst (((List.range p.length).map λj=>(((t.getD 0 []).countP (λv=>decide (v∈p.getD j [])):Nat):Int)).map W.int)) e;have J:=qZ (u:=.lst (((List.range p.length).map λj=>(((t.getD 0 []).countP (λv=>decide (v∈p.getD j [])):Nat):Int)).map W.int)) g3;have E:=yN (wN (cap:=[3]) (ρ:=[some (zl t),some (.ref n),some (zl u),some (.ref a),some (.ref r)]) (A:=C++[.lst (((List.range p.length).map λj=>(((t.getD 0 []).countP (λv=>decide (v∈p.getD j [])):Nat):Int)).map W.int)]) (mi:=zN zt) (me:=mQ w9 (zH 1 [1] (zN zj) (zD 0) zT (zF (zi zM zt zj)))) (N:=p.length) (item:=λj=>zO (p.getD j [])) (g:=λj=>.int (((t.getD 0 []).countP (λv=>decide (v∈p.getD j [])):Nat):Int)) (hw ▸ wU (zm rfl) d) rfl (by unfold zQ;omega)
  (λj b=>ZK d (k8 (t:=p) b)) (ZL d (by rw[hw];exact ao _))
  (λj b=>by
   have up:=h.pt.up _ (jC (t:=p) b);exact NO (zm rfl) J rfl (λk f=>by have:=up.bd k f;omega) up.l8 (h.nd _ (jC (t:=p) b))))
 have em:((List.range p.length).map λj=>W.int (((t.getD 0 []).countP (λv=>decide (v∈p.getD j [])):Nat):Int))=((List.range p.length).map λj=>(((t.getD 0 []).countP (λv=>decide (v∈p.getD j [])):Nat):Int)).map W.int:=by rw[aI];rfl
 rw[em]at E;obtain⟨D,L,X⟩:∃D,zi jd (kz qd (wc qh) we) (qm (zH 1 [3] (zN zt) (zD 0) zT (zF (mQ w9 (zH 1 [1] (zN zj) (zD 0) zT (zF (zi zM zt zj))))))) [some (zl t),some (.ref n),some (zl u),some (.ref a),some (.ref r)] C=.ok (.bl true) D/\Ext C D:=⟨_,(zS (g:=jd) q E).trans (MK (qZ qI) qI),Ext.one.trans Ext.one⟩;refine⟨D,?_,x4.trans X⟩;unfold Z6 GW;refine qX ?_;unfold U5;refine(zP (qV ((qa (zG (zm rfl) (zG (zm rfl) zV))).trans Q))).trans ?_;refine(zP ((ye ((w5 ((zS ((qa (zG (zm rfl) (zG (zm rfl) zV))).trans P) qW).trans rfl)).trans ((w5 ((zS ((qa (zG (zm rfl) zV)).trans (Nc U A2)) qW).trans rfl)).trans ((zS ((qa (zG (zm rfl) zV)).trans (NI U c us A2)) qW).trans rfl)))).trans jo)).trans ?_;refine(zP (Vm w rfl)).trans ?_;exact qN (jh ((gI M).trans L))
variable {a e r:Nat}{L:List Pg}
def Nb {u v:Nat}(H:A[u]? =some (.lst []))(h:A[v]? =some (.lst [])):qR (.ref u) (.ref v) A=.ok (.bl false) A:=Mo (QV (k:=7) (ds:=[]) H rfl) (QV (k:=7) (ds:=[]) h rfl) rfl
theorem Pz {f:W->Option PyData}{g:α->W}{h:α->PyData}:∀{l:List α},(∀a∈l,f (g a)=some (h a))->yh f (l.map g)=some (l.map h)
 |[],_=>rfl|a::l,e=>by
  rw[aF,yh,e a (ay ..),Pz λb H=>e b (aw _ H)]
  rfl
def Nx {a0 r:Nat}(h:Ls L a0 r C):qc C 8 (.ref r)=some (.list (L.map Ky)):=by
 refine QV (k:=7) h.r ?_;rw[QO L [] Ky];exact Pz λi H=>WW (k:=5) (h.at_ i (cx.mp H))
def Cu {ma mb:Ev}(h:ma ρ A=.ok (.int 1) A)(h':mb ρ A=.ok (.int (K:Int)) A)(H:K<=8)(a:1<=K):J2 ma mb ρ A=.ok (zO ((List.range (K-1)).map λ(k:Nat)=>1+(k:Int))) A:=by
 have h0:((K:Int)-1).toNat=K-1:=by omega
 unfold J2;rw[h,zJ,h',zJ];dsimp only;rw[ah (by rw[gC (n:=K) (by omega),h0,aq (show K-1<=zQ by unfold zQ;omega)];decide),h0]
 unfold zO;rw[aI]
 rfl
def C2 {m:Ev}(h:m ρ A=.ok (.int (K:Int)) A)(H:K<=8):JX m ρ A=.ok (zO ((List.range K).map λ(k:Nat)=>(k:Int))) A:=by
 unfold JX;rw[h,zJ];dsimp only;rw[aG,ah (by rw[gC (n:=K) (by omega),aq (show K<=zQ by unfold zQ;omega)];decide)]
 unfold zO;rw[aI]
 rfl
def Mf (a:1<=K)(H:K<=6):(gc K∈PL K/\jm K (gc K)=(List.range K).map λ(v:Nat)=>(v:Int))/\(1<K->Yc K∈PL K/\twoP K [0]=Yc K):=by
 have:=cB.mp M7 (K-1) (cx.mpr (by omega))
 rw[show K-1+1=K by omega,ak,ak,ak,af,af,bH]at this
 refine⟨⟨this.1.1.2,this.1.2⟩,λh=>?_⟩;rcases this.2 with z|z
 ·rw[aV]at z
  omega
 ·rw[ak,af,af]at z
  exact z
def iK (ht:zX t)(g:z9 t=(K:Int)):jf t ((List.range K).map λ(v:Nat)=>(v:Int))=t:=by
 unfold jf;refine(aL λr e=>?_).trans (map_id _);refine(aL λv H=>?_).trans (map_id _);obtain⟨a,h,rfl⟩:=aW e;obtain⟨b,f,rfl⟩:=aW H;have i:=ht.sq _ (aS h);obtain⟨d,c⟩:=kZ ht g h (show b<t.length by omega)
 have E:at2 t a b=t[a][b]:=by
  unfold at2;rw[ab (l:=t),aa h];show t[a].getD b 0=_;rw[ab,aa f]
  rfl
 rw[E]at d c;rw[ab,av,a6 c];exact d
def VG:p∈XP t K↔p∈PL K/\Zs t K p=true:=by
 rw[(QT (O:=yV) _).mem_iff,bD]
def iM (H:Known t)(ht:zX t)(a:z9 t=(K:Int))(b:K<=6):gc K∈XP t K:=by
 have c:=jW ht;obtain⟨h,_⟩:=Mf (K:=K) (by omega) b
 refine VG.mpr ⟨h.1,?_⟩;unfold Zs;rw[h.2,iK ht a,show(gc K).length+1=K by unfold gc;rw[ag,aE];omega,YS ht (Wa H)]
 rfl
theorem Uy:∀K,[0]∈CL K
 |0=>cC.mpr rfl|1=>cC.mpr rfl|n+2=>aY _ (Uy (n+1))
def iN (H:Known t)(ht:zX t)(a:z9 t=(K:Int))(b:K<=6)(c:1<K):Yc K∈XP t K:=by
 obtain⟨_,h⟩:=Mf (K:=K) (by omega) b
 obtain⟨Z,z⟩:=h c;refine VG.mpr ⟨Z,?_⟩
 have:=two_brs H ht a (Nt ht) (Uy K)
 rw[z]at this;unfold Zs;rw[this]
 rfl
abbrev bP:Ex:=zq (qe 8 (zC Jt (zh qg zo))) (zq (qS (jL (zi j0 (qm (zH 1 [] (Qs qh qd) (zD 0) zT (zF (qM (zh zj zo))))) gv) (yg (zi Jp qd qh) (zi j0 (qF (zh (J2 qh qd) zo)) gv))) kh zx) (zq (qS (zi qR (qm (zH 1 [3] (zN gv) (zD 0) (yv (zC Z6 (zh zt (zh zj zo)))) (zF zj))) (qF zo)) kh zx) zx))
def iO {x0 x1 x2 x5 x6 x7 x8:Option W}(f:Known t)(ht:zX t)(a:z9 t=(K:Int))(H:K<=6)(A:Hx):∃Y B,bP [x0,x1,x2,some (zl t),some (.int (K:Int)),x5,x6,x7,x8] A=.ok (.nx [x0,x1,x2,some (zl t),some (.int (K:Int)),x5,x6,x7,Y]) B/\Ext A B:=by
 have kb:=jW ht;have n:=Cd ht a H A;have l:=Ls.new (L:=XP t K) (A:=A);have o:Ext A (A++(XP t K).map pO++[yQ A.length (XP t K).length]):=(Ext.app .refl).trans Ext.one;have Q:(XP t K).length<1000:=by
  have h1:=(QT (O:=yV) ((PL K).filter (Zs t K))).length_eq;have u:=bo (Zs t K) (PL K);have h3:=(Uc (K:=K) (by omega) H).2.1
  show(jz (O:=yV) ((PL K).filter (Zs t K))).length<1000;omega
 generalize A.length+(XP t K).length=s at n l;generalize A++(XP t K).map pO++[yQ A.length (XP t K).length]=C at n l o;generalize A.length=a0 at l;have p:=Vt (m:=qh) (m':=qd) (ρ:=[x0,x1,x2,some (zl t),some (.int (K:Int)),x5,x6,x7,some (.ref s)]) (A:=C) (A1:=C) (A2:=C) (i:=1) (j:=(K:Int)) qW (zm rfl) (by decide) (gC (by omega))
 rw[show((K:Int)-1).toNat=K-1 by omega]at p
 have J:=yN (wN (N:=K-1) (cap:=[]) (me:=qM (zh zj zo)) (item:=λi=>.int (1+(i:Int))) (g:=λi=>zO [1+(i:Int)]) p rfl (by unfold zQ;omega) (λi h=>Qm h) (Qg (by omega)) (λi h=>g9 (zG (zm rfl) zV)))
 have S:((List.range (K-1)).map λ(i:Nat)=>zO [1+(i:Int)])=(gc K).map zO:=by unfold gc;rw[aI];rfl
 rw[S]at J;have I:=(zS (g:=j0) J (zm (i:=8) (w:=.ref s) rfl)).trans (Kf (y:=true) OH (WW (k:=6) qI) (Nx (l.mono Ext.one)) ⟨λ_=>iM f ht a H,λ_=>rfl⟩);have d:=l.mono (B:=C++[pO (gc K)]) Ext.one;have X:Ext C (C++[pO (gc K)]):=Ext.one;generalize C++[pO (gc K)]=D at I d X;obtain⟨F,U,x4⟩:∃F,yg (zi Jp qd qh) (zi j0 (qF (zh (J2 qh qd) zo)) gv) [x0,x1,x2,some (zl t),some (.int (K:Int)),x5,x6,x7,some (.ref s)] D=.ok (.bl false) F/\Ext D F:=by
  have E:zi Jp qd qh [x0,x1,x2,some (zl t),some (.int (K:Int)),x5,x6,x7,some (.ref s)] D=.ok (.bl (decide ((1:Int)<(K:Int)))) D:=(zS (zm rfl) qW).trans rfl
  by_cases u:1<K
  ·rw[aq (by omega)]at E
   refine⟨D++[pO (Yc K)],(gI E).trans ?_,Ext.one⟩;exact(zS (g:=j0) ((kq (zG (Cu qW (zm rfl) (by omega) (by omega)) zV)).trans rfl) (zm (i:=8) (w:=.ref s) rfl)).trans (Kf (y:=true) OH (WW (k:=6) qI) (Nx (d.mono Ext.one)) ⟨λ_=>iN f ht a H u,λ_=>rfl⟩)
  ·rw[ax (by omega)]at E
   exact⟨D,NA E,.refl⟩
 have c:=d.mono x4;obtain⟨G1,v,b⟩:=OE (q:=λ_=>false) (ρ:=[x0,x1,x2,some (zl t),some (.int (K:Int)),x5,x6,x7,some (.ref s)]) (A:=F) (cap:=[3]) (mi:=zN gv) (ifs:=yv (zC Z6 (zh zt (zh zj zo)))) c Q (O4 (zm rfl) c.r)
  (λi B h x=>by
   obtain⟨M,Z⟩:=VG.mp (mem_getD (x:=XP t K) h);obtain⟨B',e,P⟩:=iJ f ht a H M Z ((c.mono x).at_ i h);exact⟨B',wQ (k:=true) ((qa (zG (zm rfl) (zG (zm rfl) zV))).trans e),P⟩)
 rw[List.filter_eq_nil_iff.mpr (λ_ _ z=>by cases z),map_nil]at v
 have T:=(zS (g:=qR) (yN v) (kq zV)).trans (Nb (qZ qI) qI);refine⟨some (.ref s),G1++[.lst []]++[.lst []],?_,(((o.trans X).trans x4).trans b).trans (Ext.one.trans Ext.one)⟩;refine(zP (qV ((qa (zG (zm rfl) zV)).trans n))).trans ?_;refine(zP ((ye ((w5 I).trans U)).trans jo)).trans ?_;exact(zP ((ye T).trans jo)).trans jo
variable {f:Nat}{ks ls:b3}{S:Nat->List (b3)}
def W2:ks∈CS S K↔ks∈CL K/\kf S K ks=true:=by
 rw[(RH _).mem_iff,bD]
def Ue (ht:zX t)(b:z9 t=(K:Int))(a:HS t K S)(h:ks∈CL K)(H:yW t ks):ks∈CS S K:=by
 have c:=jW ht;exact W2.mpr ⟨h,(W3 ht b a (Qz (by omega) h).1).mpr H⟩
def Ua (ht:zX t)(b:z9 t=(K:Int))(a:HS t K S)(h:ks∈CS S K):ks∈CL K/\yW t ks:=by
 have d:=jW ht;obtain⟨H,c⟩:=W2.mp h;exact⟨H,(W3 ht b a (Qz (by omega) H).1).mp c⟩
def iP (H:1<=K)(h:ks∈CL K):∃r,ks=0::r:=by
 obtain⟨z,e⟩:=k7 H h;obtain⟨j,rfl⟩:∃j,K=j+1:=⟨K-1,by omega⟩
 rw[List.range_succ_eq_map,a9 (by rw[af];exact z.1),aF]at e
 exact⟨_,e⟩
def iQ (ht:zX t)(a:z9 t=(K:Int))(H:HS t K S):∃l,CS S K=[0]::l:=by
 have c:=jW ht;have h0:=Ue ht a H (Uy K) (Nt ht);have s:=HK ((CL K).filter (kf S K));have hm:=λx (b:x∈CS S K)=>iP (by omega) (Ua ht a H b).1
 unfold CS at*;generalize ZN ((CL K).filter (kf S K))=l at*;cases l with
 |nil=>cases h0|cons x l=>
  refine⟨l,?_⟩;rcases cy.mp h0 with z|z
  ·rw[<- z]
  ·have h:=(List.pairwise_cons.mp s).1 _ z
   obtain⟨r,rfl⟩:=hm x (ay ..);cases r with
   |nil=>rfl|cons y r=>exact absurd (show gf [0] (0::y::r)=false from h) (by unfold gf jQ;rw[ah rfl];simp[jQ])
def CH (ht:zX t)(H:z9 t=(K:Int))(h:HS t K S)(b:ks∈CS S K)(a:ls∈CS S K):ks.filter (λv=>decide (v∈ls))∈CS S K:=by
 have g:=jW ht;obtain⟨a1,a2⟩:=Ua ht H h b;obtain⟨d,B⟩:=Ua ht H h a;obtain⟨C,c⟩:=k7 (by omega) a1
 refine Ue ht H h ?_ (CJ a2 B λv=>by rw[bD,af])
 have:=Gb (f:=λ(k:Nat)=>decide ((k:Int)∈ks)&&decide ((k:Int)∈ls)) (by rw[ak,af,af];exact⟨C.1,(k7 (by omega) d).1.1⟩) (K:=K) (by omega)
 have e:((List.range K).filter λ(k:Nat)=>decide ((k:Int)∈ks)&&decide ((k:Int)∈ls)).map (λ(k:Nat)=>(k:Int))=ks.filter λv=>decide (v∈ls):=by
  conv=>rhs;rw[c]
  rw[filter_map,List.filter_filter]
  congr 1
  refine filter_congr λk _=>?_;rw[Bool.and_comm]
  rfl
 rwa[e]at this
def BP (ht:zX t)(h:z9 t=(K:Int))(H:HS t K S):(List.range K).map (λ(k:Nat)=>(k:Int))∈CS S K:=by
 have b:=jW ht;refine Ue ht h H ?_ (AM ht h)
 have:=Gb (f:=λ_=>true) rfl (K:=K) (by omega)
 rwa[List.filter_eq_self.mpr λ_ _=>rfl]at this
def Nm (s:jA n A)(hf:A[f]? =some (pO p))(fn:f≠n)(a:1<=p.length)(h:p.length<64)(v2:ρ[2]? =some (some (.ref n)))(v:ρ[5]? =some (some (.ref f))):∃q B,zi zM qT (zC yI (zh zI (zh (mQ qQ (qo qT)) zo))) ρ A=.ok (zO q) B/\q∈p/\Kn n A B:=by
 have hw:(p.map zO).length=p.length:=ag ..;obtain⟨r,B,e,H,K,_⟩:=NN (m:=(p.length:Int)) s (by omega) (by omega)
 have E:mQ qQ (qo qT) ρ A=.ok (.int (p.length:Int)) A:=(j3 (yY (zm v) (Qo hf))).trans (by show R.ok (W.int ((p.map zO).length:Nat)) A=_;rw[hw])
 refine⟨p.getD r [],B,(zS (zm v) ((qa (zG (zm v2) (zG E zV))).trans e)).trans (JR (K.kp.get hf fn) (k8 (t:=p) (by omega))),jC (t:=p) (by omega),K⟩
abbrev BL:Ex:=zq (qe 2 (zC JC (zh zj (zh zt zo)))) (zq (qe 3 (zC QP (zh zI zo))) (zq (qe 4 (zC gZ (zh qg zo))) (zq (qe 5 (zC JP (zh qg zo))) (zq (qS (jL (zi qR (qm (zH 1 [3] (zN qT) (zD 0) (yv (zC QL (zh zt (zh zj zo)))) (zF zj))) (qF zo)) (zi qR (zi zM qT qp) (qM (zh qp zo)))) kh zx) (zq (Zr (qM (zh (zi zM qT (zC yI (zh zI (zh (mQ qQ (qo qT)) zo)))) (zh (zi zM qT (zC yI (zh zI (zh (mQ qQ (qo qT)) zo)))) zo))) (qP 6 7)) (zq (qS (jL (zi j0 (mQ jK (zH 1 [7] (zN gT) (zD 0) (zi yn zj zt) (zF zj))) qT) (zi j0 (JX qd) qT)) kh zx) (zq (qS (zi Z1 qd QH) bP zx) zx)))))))
def Ap {x2 x3 x4 x5 x6 x7 x8:Option W}(h0:A[0]? =some (.ro (ns.map W.int))):∃y2 y3 y4 y5 y6 y7 Z B,BL [some (.ref 0),some (.int (k:Int)),x2,x3,x4,x5,x6,x7,x8] A=.ok (.nx [some (.ref 0),some (.int (k:Int)),y2,y3,y4,y5,y6,y7,Z]) B/\B[0]? =some (.ro (ns.map W.int)):=by
 obtain⟨o,X,s1⟩:=AS h0 k;have hn:=ZC h0;have h1:(A++[o])[0]? =some (.ro (ns.map W.int)):=qZ h0;have p:A.length<(A++[o]).length:=by simp
 generalize A++[o]=A1 at X s1 h1 p;generalize A.length=n at X s1 hn p;obtain⟨t,A2,e2,ht,C,k2,l2⟩:=Aw s1;have st:=Wa C;have kb:=jW ht;obtain⟨K,h⟩:=bg (show 0<=z9 t by omega)
 have s:=YS (K:=K) ht st;obtain⟨S,d⟩:=C4 ht st K;have r:=iD C h (f:=kf S K) λks M hw=>(W3 ht h d (Qz (by omega) M).1).mp hw
 have e3:=Vz ht h A2;have P:=CB ht h s d (Mp ht h d) r A2;have lc:(CS S K).length<64:=by
  rw[(RH _).length_eq];exact r
 obtain⟨l,hl⟩:=iQ ht h d;have i:(A2++[pO (CS S K)])[A2.length]? =some (pO (CS S K)):=qI;have J:Kn n A1 (A2++[pO (CS S K)]):=k2.trans (Kn.ext k2.st Ext.one);have fn:A2.length≠n:=by omega
 generalize A2++[pO (CS S K)]=u at P i J;generalize A2.length=f at P i fn;have hw:((CS S K).map zO).length=(CS S K).length:=ag ..;have e5:=yN (QR (cap:=[3]) (ρ:=[some (.ref 0),some (.int (k:Int)),some (.ref n),some (zl t),some (.int (K:Int)),some (.ref f),x6,x7,x8]) (A:=u) (mi:=zN qT) (ifs:=yv (zC QL (zh zt (zh zj zo)))) (me:=zj) (N:=(CS S K).length) (item:=λj=>zO ((CS S K).getD j [])) (g:=λj=>.non) (keep:=λ_=>false) (hw ▸ wU (zm rfl) i) rfl (by unfold zQ;omega)
  (λj H=>ZK i (k8 (t:=CS S K) H)) (ZL i (by rw[hw];exact ao _))
  (λj H=>by
   obtain⟨z1,z2⟩:=W2.mp (jC (t:=CS S K) H);exact wQ (k:=true) ((qa (zG (zm rfl) (zG (zm rfl) zV))).trans (iG C ht h d z1 z2 u)))
  (λj H z=>by cases z))
 rw[List.filter_eq_nil_iff.mpr (λ_ _ z=>by cases z),map_nil]at e5
 have e6:=(zS (g:=qR) e5 (kq zV)).trans (Nb (qZ qI) qI);have f4:(u++[.lst []]++[.lst []])[f]? =some (pO (CS S K)):=qZ (qZ i);have I:Kn n A1 (u++[.lst []]++[.lst []]):=J.trans (Kn.ext J.st (Ext.one.trans Ext.one));generalize u++[.lst []]++[.lst []]=Y at e6 f4 I;have e7:zi qR (zi zM qT qp) (qM (zh qp zo)) [some (.ref 0),some (.int (k:Int)),some (.ref n),some (zl t),some (.int (K:Int)),some (.ref f),x6,x7,x8] Y=.ok (.bl false) Y:=
  (zS ((zS (zm rfl) qW).trans (JR (s:=0) f4 (w:=zO [0]) (by rw[hl];rfl))) (g9 (zG qW zV))).trans ((Lg [0] [0] Y).trans (by rw[aq rfl];rfl))
 have lp:1<=(CS S K).length:=by rw[hl];simp
 obtain⟨Q,A5,e8,m,D⟩:=Nm (ρ:=[some (.ref 0),some (.int (k:Int)),some (.ref n),some (zl t),some (.int (K:Int)),some (.ref f),x6,x7,x8]) I.st f4 fn lp lc rfl rfl;have f5:=D.kp.get f4 fn;obtain⟨a,c,e9,L,k6⟩:=Nm (ρ:=[some (.ref 0),some (.int (k:Int)),some (.ref n),some (zl t),some (.int (K:Int)),some (.ref f),x6,x7,x8]) D.st f5 fn lp lc rfl rfl;have f6:=k6.kp.get f5 fn;have kk:=(I.trans D).trans k6;have h6:=kk.kp.get h1 (by omega)
 have hb1:=(Qz (by omega) (W2.mp m).1).2
 have U:mQ jK (zH 1 [7] (zN gT) (zD 0) (zi yn zj zt) (zF zj)) [some (.ref 0),some (.int (k:Int)),some (.ref n),some (zl t),some (.int (K:Int)),some (.ref f),some (zO Q),some (zO a),x8] c=.ok (zO (Q.filter λv=>decide (v∈a))) c:=by
  have ec:=QR (cap:=[7]) (ρ:=[some (.ref 0),some (.int (k:Int)),some (.ref n),some (zl t),some (.int (K:Int)),some (.ref f),some (zO Q),some (zO a),x8]) (A:=c) (mi:=zN gT) (ifs:=zi yn zj zt) (me:=zj) (N:=Q.length) (item:=λj=>.int (Q.getD j 0)) (g:=λj=>.int (Q.getD j 0)) (keep:=λj=>decide (Q.getD j 0∈a)) (ON (q:=Q) (zm rfl)) rfl (by unfold zQ;omega)
   (λj H=>by show some ((Q.map W.int)[j]?)=_;rw[int_at H]) (by show some ((Q.map W.int)[Q.length]?)=_;rw[aD (by rw[ag];exact ao _)])
   (λj H=>(zS (zm rfl) (zm rfl)).trans (Y9 (b:=false) _ a c)) (λj H _=>zm rfl)
  have ee:(((List.range Q.length).filter λj=>decide (Q.getD j 0∈a)).map λj=>W.int (Q.getD j 0))=(Q.filter λv=>decide (v∈a)).map W.int:=by rw[<- UG (x:=0) Q,aI];rfl
  rw[ee]at ec;exact gJ ec
 have T:jL (zi j0 (mQ jK (zH 1 [7] (zN gT) (zD 0) (zi yn zj zt) (zF zj))) qT) (zi j0 (JX qd) qT) [some (.ref 0),some (.int (k:Int)),some (.ref n),some (zl t),some (.int (K:Int)),some (.ref f),some (zO Q),some (zO a),x8] c=.ok (.bl false) c:=
  (w5 ((zS U (zm rfl)).trans (Wq (y:=true) f6 ⟨λ_=>CH ht h d m L,λ_=>rfl⟩))).trans ((zS (C2 (zm rfl) (by omega)) (zm rfl)).trans (Wq (y:=true) f6 ⟨λ_=>BP ht h d,λ_=>rfl⟩))
 have E:zi Z1 qd QH [some (.ref 0),some (.int (k:Int)),some (.ref n),some (zl t),some (.int (K:Int)),some (.ref f),some (zO Q),some (zO a),x8] c=.ok (.bl (decide ((K:Int)<7))) c:=(zS (zm rfl) qW).trans rfl;have head:∀{z},zq (qS (zi Z1 qd QH) bP zx) zx [some (.ref 0),some (.int (k:Int)),some (.ref n),some (zl t),some (.int (K:Int)),some (.ref f),some (zO Q),some (zO a),x8] c=z->BL [some (.ref 0),some (.int (k:Int)),x2,x3,x4,x5,x6,x7,x8] A=z:=λhz=>by
  refine(zP (qV ((qa (zG (zm rfl) (zG (zm rfl) zV))).trans X))).trans ?_;refine(zP (qV ((qa (zG (zm rfl) zV)).trans e2))).trans ?_;refine(zP (qV ((qa (zG (zm rfl) zV)).trans e3))).trans ?_;refine(zP (qV ((qa (zG (zm rfl) zV)).trans P))).trans ?_;refine(zP ((ye ((w5 e6).trans e7)).trans jo)).trans ?_;refine(zP (Vm (g9 (zG e8 (zG e9 zV))) rfl)).trans ?_;exact(zP ((ye T).trans jo)).trans hz
 by_cases h7:K<7
 ·rw[aq (by omega)]at E
  obtain⟨Z,B,e,x⟩:=iO (x0:=some (.ref 0)) (x1:=some (.int (k:Int))) (x2:=some (.ref n)) (x5:=some (.ref f)) (x6:=some (zO Q)) (x7:=some (zO a)) (x8:=x8) C ht h (by omega) c
  exact⟨_,_,_,_,_,_,_,B,head ((zP ((Jd E).trans e)).trans jo),x.at h6⟩
 ·rw[ax (by omega)]at E
  exact⟨_,_,_,_,_,_,_,c,head ((zP ((ye E).trans jo)).trans jo),h6⟩
end
def V4:Fn:=qK 9 (Us QL QP Z6 JC yI JP gZ Jt)
def Ci:N9 V4:=λns u=>by
 have s:zW (.ref 0) [.ro (ns.map W.int)]=some (ns.map W.int):=rfl;have E:mQ qQ (qo zj) [some (.ref 0),none,none,none,none,none,none,none,none] [.ro (ns.map W.int)]=.ok (.int ns.length) [.ro (ns.map W.int)]:=by
  rw[j3 (yY (w:=.ref 0) (A1:=[.ro (ns.map W.int)]) (zm rfl) s)];unfold qQ;rw[ag]
 have em:zi V6 qh (zi Ga (mQ qQ (qo zj)) jk) [some (.ref 0),none,none,none,none,none,none,none,none] [.ro (ns.map W.int)]=
   .ok (.int (if (if (2:Int)<ns.length then 2 else(ns.length:Int)) > 1 then(if (2:Int)<ns.length then 2 else(ns.length:Int)) else 1)) [.ro (ns.map W.int)]:=
  (zS (qW (w:=.int 1)) ((zS E (qW (w:=.int 2))).trans rfl)).trans rfl
 generalize l:(if (if (2:Int)<ns.length then 2 else(ns.length:Int)) > 1 then(if (2:Int)<ns.length then 2 else(ns.length:Int)) else 1)=v at em;have H:je v=true:=by
  have:0<=v/\v<1000:=by
   rw[<- l]
   split<;>split<;>omega
  obtain⟨k,rfl⟩:=bg this.1;exact HM (by omega)
 obtain⟨g,B,e,_⟩:=Qa (j:=wB 0 v.toNat) (st:=turn (zD 1) BL) (N:=v.toNat) (I:=λ_ ρ B=>B[0]? =some (.ro (ns.map W.int))/\∃f y2 y3 c b a Y y,ρ=[some (.ref 0),f,y2,y3,c,b,a,Y,y])
  (λi ρ B m ⟨h0,f,y2,y3,c,b,a,Y,y,h⟩=>by
   subst h;obtain⟨t,r,q,p,o,Z,z,n,e,d⟩:=Ap (k:=i) (x2:=y2) (x3:=y3) (x4:=c) (x5:=b) (x6:=a) (x7:=Y) (x8:=y) h0;refine⟨_,_,n,Qm m,(kX (ρ1:=[some (.ref 0),some (.int (i:Int)),y2,y3,c,b,a,Y,y]) ?_).trans e,d,_,_,_,_,_,_,_,_,rfl⟩;rw[Int.zero_add];rfl)
  (λρ B _=>Qg (by omega)) v.toNat 0 [some (.ref 0),none,none,none,none,none,none,none,none] [.ro (ns.map W.int)] (by omega) ⟨rfl,_,_,_,_,_,_,_,_,rfl⟩
 refine⟨B,qX ?_⟩;unfold Us;exact(zP ((kU (YO em H)).trans e)).trans (qN (jh qW))
section
variable {K:Frag}
def iR (Z:Zz K h mg){f:Addr}(F:Zt K "law" "law" W6 f fd):yR P w K mg base gp 9 f fd ["_law_script"] (ZX K 1 V4):=
 o_law (k:=8) Z.B F (LR Z).up (Hg Z).up (LH Z).up (HH Z).up (Z9 Z).up (C1 Z).up (Xu Z).up (L4 Z).up
def all_mk {l:PySem.W.OpenLaw}{b:Addr}(X:K.In h)(Gl:h.Ns mainGlobals mg)(H:mg "law"=some (.ref b))(T:Tx K):
  ∃fd:FuncData,(∀(s:Shared)(v:Value),BindsTo s fd ⟨[v],[]⟩ [("_law_script",v)])/\∀base:Heap,K.In base->base.Ns mainGlobals mg->yR l.prog w K mg base gp 9 b fd ["_law_script"] (ZX K 1 V4):=by
 obtain⟨f,fd,F,a⟩:=T.zcE;have e:=H.symm.trans (a7 X Gl a);cases e;obtain⟨i,g,kV,doc,pm,an,c,ct,o,rfl,L,d⟩:=id F.ex;exact⟨_,λs v=>.of_eq rfl,λbase j nb=>iR (zz X Gl T) F⟩
end
end G
namespace PySem.W.Fast
def tw11941537983659313759:Nat:=0
def tw6944466479445980044:Nat:=0
def tw1163191866622727388:Nat:=0
def tw1097433071814400229:Nat:=0
def tw4032020799847182664:Nat:=0
def tw7280328197012890928:Nat:=0
def tw18088286119489976169:Nat:=0
def tw544155745074118554:Nat:=0
def tw2128224475072650777:Nat:=0
def tw2223349976928639742:Nat:=0
def tw17742154433173405983:Nat:=0
def tw3472734986138256093:Nat:=0
def tw5338669840401909498:Nat:=0
def tw591839169147047381:Nat:=0
def tw14042443063856224936:Nat:=0
def tw7637844839177752875:Nat:=0
def tw6771480311528230481:Nat:=0
def tw8376850393329875960:Nat:=0
def tw7550456310868156421:Nat:=0
def tw5708626435667013355:Nat:=0
def tw10075733989931771375:Nat:=0
def tw5042927046873969698:Nat:=0
def tw8870000318153452982:Nat:=0
def tw13228866382042482466:Nat:=0
end PySem.W.Fast
open PySem PySem.W PyProof.Rows
set_option maxRecDepth 100000 in
set_option maxHeartbeats 0 in
theorem PySem.Challenge.cw_nearkinds_k73_whole_kinds_made_one_holds : PySem.Challenge.rw_nearkinds_k73_whole_kinds_made_one.Holds := by
 w_on;o_law;k_head;(case hw=>w_witness2)
 k_fill
 refine Mi.zb2 (l:=PySem.Challenge.rw_nearkinds_k73_whole_kinds_made_one) (k:=9) (x := "_law_script") G.Ci rfl rfl ⟨rfl,by decide,by decide⟩ (λw h Y=>PySem.W.kIn_of Y) ?F
 case F=>
  intro w mg fa h KX Gl hmg;have T:G.Tx (L2.Lo KX):=by
   dsimp only [L2.Lo]
   apply G.Tx.mk<;>first | (refine' Mi.zcH ?a ?l ?c ?k;(case a=>k_is);(case l=>k_is);(case c=>k_is);(case k=>k_is)) | (refine' Mi.zcz ?a;(case a=>k_is)) | k_is|kernel_rfl
  exact G.all_mk KX Gl hmg T
