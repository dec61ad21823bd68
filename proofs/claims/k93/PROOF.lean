import PyProof.Rows.All
import Wide.All
import OpenK.AllK
import Wide.FinOn
import Lean
import PyProof.EqAt
import PyProof.EqKinds
import PyProof.TupleCall
import OpenK.KOwn
import PyProof.Rows.FStr
import PyProof.FString
import PyProof.NsDelKeeps
import KE.KIsAll
import PyProof.ExcArgs
import KE.KLam
import KE.KNestM
import PyProof.Rows.SetFrom
import PyProof.ListMulRoad
import PyProof.FactsAll.set_1
import PyProof.FactsAll.set_2
import PyProof.CollectIter
import PyProof.TupleIter
import PyProof.CollectWalk
import PyProof.Rows.SortShell
import PyProof.SumAny
import PyProof.ListOps
import KE.KDictList
import PyProof.NoPylong
import KE.KUnpack
import KE.KSortTup
import KE.KIntText
import PyProof.Rows.TupDisplay
import PyProof.AttrMiss
import PyProof.IsiH_list
import KE.KDictOf
import PyProof.ReprRoads
import PyProof.CallFns
import KE.KUnpackStar
import KE.KTab
import PySem.Challenge.RW_nearkinds_k93_lines_that_are_none
noncomputable section
open PySem.W (Frag)
open List (all_eq_true any_cons find?_cons forIn_cons forIn_nil length_take lookup_cons map_append mem_cons mem_filter nil_append not_mem_nil of_mem_zip)
open Nat (le_add_right le_of_eq le_of_lt lt_trans ne_of_gt)
open Bool (not_eq_true' or_eq_true)
open Option (any_eq_true getD_none isSome_some)
open Array (length_toList)
open PySem.W (CodeHd callWith_K callWith_K0 cellsFrom_some codeHdIn codeHd_of_K codeIn emptyDict envX fnOf handedIn hasDictIn hideAll hideAll_none hideAll_size instObj isFn keepIn kitOne kitx_dict kitx_list kitx_tuple kla_fn kla_obj lookIn makesIn methodObj nsIn of_hideAll plainGet plainGet_of plainOver tabIn tabObj takerIn)
open PySem.F (args_tuple_add_2 entry_tuple_add plainAttrs_dict slot_dict_get slot_tuple_add)
abbrev aa:=@PySem.Heap.get?_push_of_some
abbrev ae:=@List.getElem?_append_left
abbrev af:=@if_pos
abbrev ag:=@if_neg
abbrev ah:=@PySem.Heap.get?_push_size
abbrev ai:=@List.getElem?_append_right
abbrev aj:=@Option.some.inj
abbrev ak:=@Nat.le_refl
abbrev ao:=@Bool.false_ne_true
abbrev aq:=@Bool.and_eq_true
abbrev ar:=@Nat.lt_of_lt_of_le
abbrev au:=@beq_iff_eq
abbrev av:=@List.mem_cons_of_mem
abbrev aw:=@PySem.Heap.lt_size
abbrev ax:=@List.size_toArray
abbrev ay:=@decide_eq_true_iff
abbrev az:=@Nat.ne_of_lt
abbrev aA:=@List.mem_cons_self
abbrev aB:=@Nat.lt_irrefl
abbrev aC:=@List.mem_append_right
abbrev aD:=@decide_eq_false
abbrev aE:=@List.length_append
abbrev aF:=@List.getElem?_set_self
abbrev aG:=@PySem.W.mg_of
abbrev aH:=@List.getElem?_set_ne
abbrev aI:=@List.getD_eq_getElem?_getD
abbrev aJ:=@PySem.W.mg_none_of
abbrev aK:=@List.getElem?_map
abbrev aL:=@List.length_map
abbrev aM:=@List.getElem?_eq_getElem
abbrev aN:=@PySem.Heap.size_push
abbrev aO:=@List.replicate_succ
abbrev aP:=@List.map_cons
abbrev aQ:=@List.filterMap_cons
abbrev aR:=@List.append_assoc
abbrev aS:=@List.getElem?_replicate
abbrev aT:=@List.append_nil
abbrev aU:=@List.length_cons
abbrev aV:=@Nat.lt_succ_self
abbrev aW:=@Nat.le_trans
abbrev aX:=@PySem.W.kia_one
abbrev aY:=@Nat.lt_succ_of_lt
abbrev aZ:=@List.length_replicate
abbrev a3:=@List.mem_of_getElem?
abbrev a4:=@PySem.W.hideAll_get
abbrev a5:=@List.flatten_cons
abbrev a6:=List Int
abbrev a7:=List PySem.Value
abbrev a8:=List PySem.Addr
abbrev a9:=List (PySem.Addr×PySem.Obj)
abbrev ba:=List Nat
abbrev bb:=List PySem.Str
abbrev bc:=PySem.Value->PySem.Shared->Prop
abbrev bf:=List PySem.Expr
abbrev bg:=Option Int
abbrev bh:=PySem.Str->Option PySem.Value
abbrev bj:=List PySem.Env
abbrev bo:=List (PySem.Str×PySem.Addr)
abbrev bp:=List PySem.Keyword
abbrev bq:=Option PySem.Addr
abbrev br:=List PySem.Stmt
abbrev bt:=@PySem.wpAny_bind
abbrev bw:=@PySem.wpAny_pure
abbrev bx:=@List.getElem?_eq_some_iff
abbrev bz:=@List.mem_cons
abbrev bA:=@List.all_eq_true
set_option Elab.async false
set_option linter.all false
set_option maxRecDepth 1000000
set_option maxHeartbeats 4000000
variable {XP:(PySem.Str->Option PySem.Value)->PySem.Heap->Prop}{C D Pt a b c f:PySem.Addr}{osl:Array (Option PySem.Value)}{op:PySem.CmpOp}{env:PySem.Env}{e elt tg:PySem.Expr}{fd:PySem.FuncData}{base h:PySem.Heap}{pins:List (PySem.Addr×PySem.Obj)}{cells:List (PySem.Str×PySem.Addr)}{kw:List (PySem.Str×PySem.Value)}{fp φ:List PySem.Addr}{gens gs:List PySem.Comprehension}{outer:List PySem.Env}{elts es ifs:List PySem.Expr}{N ps:List PySem.Str}{its us:List PySem.Value}{M:PySem.Model}{i j k kk n t':Nat}{apos cpos p pos tpos:PySem.Pos}{P:PySem.Program}{sc scope:PySem.Scope}{pl:PySem.Sem Bool}{s s':PySem.Shared}{qual x:PySem.Str}{mg:PySem.Str->Option PySem.Value}{α:Type}{u:PySem.Value}{E Q:PySem.Value->PySem.Shared->Prop}{w:PySem.World}
namespace L2
open PySem PySem.Spec PyProof.Rows
noncomputable abbrev Key:=Sum Int Str
noncomputable def wC:Key->Value->Bool
 |.inl k,v=>Value.isInt k v|.inr x,v=>Value.isStrOf x v
noncomputable def Ht (w:World):Key->Int
 |.inl k=>hashInt k|.inr x=>hashStr w x
theorem yJ:∀{k:Key}{v:Value},wC k v=true->(∃i t,k=Sum.inl i/\v=Value.int i t)∨(∃x t,k=Sum.inr x/\v=Value.str x t)
 |.inl i,v,h=>by
  obtain⟨t,e⟩:=Value.isInt_shape (k:=i) (v:=v) h;exact .inl ⟨i,t,rfl,e⟩
 |.inr x,v,h=>by
  obtain⟨t,e⟩:=Value.isStrOf_shape (x:=x) (v:=v) h;exact .inr ⟨x,t,rfl,e⟩
def RU (i:Int)(t:Tok):wC (.inl i) (.int i t)=true:=by simp[wC,Value.isInt]
def Rj (x:Str)(t:Tok):wC (.inr x) (.str x t)=true:=by simp[wC,Value.isStrOf]
def MY (a b:Int):decide ((Sum.inl a:Key)=Sum.inl b)=(a==b):=by
 by_cases e:a=b
 ·subst e;simp
 ·have h:¬(Sum.inl a:Key)=Sum.inl b:=λq=>e (Sum.inl.inj q)
  rw[aD h];exact(beq_eq_false_iff_ne.mpr e).symm
def Lf (a b:Str):decide ((Sum.inr a:Key)=Sum.inr b)=decide (a=b):=by
 by_cases e:a=b
 ·subst e;simp
 ·have h:¬(Sum.inr a:Key)=Sum.inr b:=λq=>e (Sum.inr.inj q)
  rw[aD h,aD e]
def Mf (a:Int)(b:Str):decide ((Sum.inl a:Key)=Sum.inr b)=false:=aD (λq=>nomatch q)
def Lk (a:Str)(b:Int):decide ((Sum.inr a:Key)=Sum.inl b)=false:=aD (λq=>nomatch q)
def jU (prog:Program)(w:World):PySem.KeyKind prog w Key where
 is:=wC
 hash:=Ht w
 inj:=λv a b f c=>by
  rcases yJ f with ⟨i,t,rfl,rfl⟩|⟨x,t,rfl,rfl⟩
  ·rcases yJ c with ⟨j,u,rfl,e⟩|⟨y,u,rfl,e⟩
   ·injection e with E _;rw[E]
   ·exact nomatch e
  ·rcases yJ c with ⟨j,u,rfl,e⟩|⟨y,u,rfl,e⟩
   ·exact nomatch e
   ·injection e with E _;rw[E]
 byValue:=λk v h=>by
  rcases yJ h with ⟨i,t,rfl,rfl⟩|⟨x,t,rfl,rfl⟩<;>rfl
 pyHash:=λH h=>by
  rcases yJ H with ⟨i,t,rfl,rfl⟩|⟨x,t,rfl,rfl⟩
  ·exact wpAny_pyHash_int h
  ·exact wpAny_pyHash_str h
 eqBool:=λd H h=>by
  rcases yJ d with ⟨i,t,rfl,rfl⟩|⟨x,t,rfl,rfl⟩
  ·rcases yJ H with ⟨j,u,rfl,rfl⟩|⟨y,u,rfl,rfl⟩
   ·rw[MY]at h;exact wpAny_eqBool_int h
   ·rw[Mf]at h;exact SeqAt.EqAt.int_str i t y u _ _ _ _ h
  ·rcases yJ H with ⟨j,u,rfl,rfl⟩|⟨y,u,rfl,rfl⟩
   ·rw[Lk]at h;exact SeqAt.EqAt.str_int x t j u _ _ _ _ h
   ·rw[Lf]at h;exact wpAny_eqBool_str h
 «strs»:=λk x t v h=>by
  rcases yJ h with ⟨i,u,rfl,e⟩|⟨y,u,rfl,e⟩
  ·exact nomatch e
  ·injection e with E _
   subst E;cases v<;>rfl
def Sh (prog:Program)(w:World)(k:Key)(v:Value):(jU prog w).is k v=wC k v:=rfl
def T7 (prog:Program)(w:World)(i:Int)(t:Tok):(jU prog w).is (.inl i) (.int i t)=true:=RU i t
def TZ (prog:Program)(w:World)(x:Str)(t:Tok):(jU prog w).is (.inr x) (.str x t)=true:=Rj x t
inductive V where
 |non|bl (b:Bool)|int (i:Int)|str (x:Str)|byt (b:Array UInt8)|flt (b:UInt64)|ref (a:Addr)|ty (n:String)
 deriving DecidableEq
noncomputable def RelV:V->Value->Prop
 |.non,u=>u=Value.none|.bl b,u=>u=Value.bool b|.int i,u=>∃t,u=Value.int i t|.str x,u=>∃t,u=Value.str x t|.byt b,u=>∃t,u=Value.bytes b t|.flt b,u=>∃t,u=Value.float b t|.ref a,u=>u=Value.ref a|.ty n,u=>u=Value.type n
abbrev Vals:List V->List Value->Prop:=Paired RelV
theorem Vals.length {xs:List V}(r:Vals xs us):xs.length=us.length:=Paired.length r
theorem Vals.get:∀{xs:List V}{us:a7}{i:Nat}{x:V},Vals xs us->xs[i]? =some x->∃u,us[i]? =some u/\RelV x u
 |_,_,_,_,.nil,e=>by simp at e|_,_,0,_,.cons r _,e=>by simp at e;subst e;exact⟨_,rfl,r⟩|_,_,i+1,x,.cons _ t,e=>by
  obtain⟨u,H,h⟩:=Vals.get (i:=i) (x:=x) t (by simpa using e)
  exact⟨u,by simpa using H,h⟩
theorem Vals.set {x:V}(r:RelV x u):∀{xs:List V}{us:a7}(i:Nat),Vals xs us->Vals (xs.set i x) (us.set i u)
 |_,_,_,.nil=>.nil|_,_,0,.cons _ t=>.cons r t|_,_,i+1,.cons q t=>.cons q (Vals.set r i t)
theorem Vals.append:∀{xs ys:List V}{us ws:a7},Vals xs us->Vals ys ws->Vals (xs++ys) (us++ws)
 |_,_,_,_,.nil,s=>s|_,_,_,_,.cons r t,s=>.cons r (Vals.append t s)
theorem Vals.take:∀{xs:List V}{us:a7}(n:Nat),Vals xs us->Vals (xs.take n) (us.take n)
 |_,_,0,_=>.nil|_,_,_+1,.nil=>.nil|_,_,n+1,.cons r t=>.cons r (Vals.take n t)
theorem Vals.drop:∀{xs:List V}{us:a7}(n:Nat),Vals xs us->Vals (xs.drop n) (us.drop n)
 |_,_,0,r=>r|_,_,_+1,.nil=>.nil|_,_,n+1,.cons _ t=>Vals.drop n t
def Vals.none_of:∀{xs:List V}{us:a7}{i:Nat},Vals xs us->xs[i]? =none->us[i]? =none:=λ {xs us i} r e=>by
 have H:=r.length;have h:xs.length<=i:=List.getElem?_eq_none_iff.mp e;exact List.getElem?_eq_none_iff.mpr (by omega)
def yA:Option V->Option Value->Prop
 |some v,some u=>RelV v u|none,none=>True|_,_=>False
def KV {κ:Type}:List (κ×V)->List (κ×Value)->Prop:=Paired λ(p:κ×V) (q:κ×Value)=>p.1=q.1/\RelV p.2 q.2
noncomputable def kV:Key->V
 |.inl i=>.int i|.inr x=>.str x
inductive HO where
 |lst (xs:List V)
 |tup (xs:List V)
 |dK (kvs:List (Key×V))|dT (kvs:List (List Key×V))
 |set (S:Int->Bool) (n:Nat)
 |ins (C dx:Addr) (fs:List (Str×V))
 |own (x:Addr)
 |xd (fs:List (Str×V))
 |met (f x:Addr)
 |rng (lo hi:Int)
 |frz (o:Obj) (u:HO)
 |tbl (ps:Array Value)
 |ext (φ:Heap->Prop)
noncomputable abbrev Hp:=Addr->Option HO
noncomputable def upd (H:Hp)(a:Addr)(o:HO):Hp:=λb=>if b=a then some o else H b
def ql {H:Hp}{o:HO}:upd H a o a=some o:=by unfold upd;rw[af rfl]
def zF {H:Hp}{o:HO}(h:b≠a):upd H a o b=H b:=by unfold upd;rw[ag h]
def gA {H:Hp}{o u:HO}(h:H a=some o)(h':H b=some u)(d:o≠u):a≠b:=by
 intro e;subst e;rw[h]at h';exact d (aj h')
def jl {H:Hp}{o:HO}(h:H a=some o)(h':H b=none):a≠b:=by
 intro e;subst e;rw[h]at h';cases h'
def wA (h:Heap)(a:Addr)(items:Array Value):Prop:=∃o,h.get? a=some o/\(o.cls=.type "tuple" /\ o.dict=none)/\∃n,o.data=.seq items n
def wA.tup {h:Heap}{a:Addr}{items:Array Value}(x:wA h a items):IsTup h a items:=let ⟨o,e,c,d⟩:=x;⟨o,e,c.1,d⟩
def wA.new (h:Heap)(items:Array Value):wA (h.push { cls:=.type "tuple",data:=.seq items }) h.objs.size items:=⟨_,ah h rfl,⟨rfl,rfl⟩,0,rfl⟩
section
variable (P:Program)(w:World)
def qd (H:Hp)(h:Heap)(a:Addr):HO->Prop
 |.lst xs=>xs.length<=sizeLine/\∃(its:a7) (n:Nat),Vals xs its/\h.get? a=some { cls:=.type "list",data:=.seq its.toArray n }
 |.tup xs=>xs.length<=sizeLine/\∃its:a7,Vals xs its/\wA h a its.toArray|.dK kvs=>kvs.length<=sizeLine/\(a==sysModules)=false/\∃vs,KV kvs vs/\h.DictOf (jU P w) a vs|.dT kvs=>kvs.length<=sizeLine/\(a==sysModules)=false/\∃xs:List (List Key×Addr×Value),
   Paired (λ(p:List Key×V) (q:List Key×Addr×Value)=>p.1=q.1/\H q.2.1=some (.tup (p.1.map kV))/\RelV p.2 q.2.2) kvs xs/\
   ∃o e E,h.get? a=some o/\o.ExactDict/\o.data=.dict e E/\e.toList=xs.map (entryOfKey (tupleKind (jU P w)))/\(xs.map (·.1)).Nodup
 |.set S n=>h.SetOf (intKind P w) a S n|.ins C d fs=>H d=some (.own a)/\fs.length<=1000/\d≠a/\h.get? a=some (instObj C d)/\
   ∃M,h.Ns1 d M/\(∀f,yA (fs.lookup f) (M f))/\PySem.Within M (fs.map (·.1))
 |.own _=>∃o,h.get? a=some o|.xd fs=>∃M,h.Ns1 a M/\∀f,yA (fs.lookup f) (M f)|.rng lo i=>∃t u v,h.get? a=some { cls:=.type "range",data:=.fields #[.int lo t,.int i u,.int 1 v] }
 |.frz o u=>h.get? a=some o/\qd H h a u|.tbl s=>h.get? a=some { cls:=.none,data:=.fields s }|.met f x=>h.get? a=some (methodObj (.ref f) (.ref x))|.ext φ=>φ h/\(∃o,h.get? a=some o)/\∀c b:Heap,φ c->(∀o,c.get? a=some o->b.get? a=some o)->φ b
def z9 (H:Hp)(h:Heap):Prop:=∀a o,H a=some o->qd P w H h a o
end
section
variable {H H':Hp}{h':Heap}{o:HO}
theorem qd.lt (x:qd P w H h a o):a<h.objs.size:=by
 cases o with
 |lst xs=>obtain⟨_,_,_,_,e⟩:=x;exact aw e|tup xs=>obtain⟨_,_,_,p⟩:=x;exact p.tup.lt|dK kvs=>obtain⟨_,_,_,_,o,_,_,e,_⟩:=x;exact aw e|dT kvs=>obtain⟨_,_,_,_,o,_,_,e,_⟩:=x;exact aw e|set S n=>obtain⟨o,_,_,_,e,_⟩:=x;exact aw e|ins C d fs=>obtain⟨_,_,_,e,_⟩:=x;exact aw e|own y=>obtain⟨_,e⟩:=x;exact aw e|xd fs=>obtain⟨_,⟨_,_,_,e,_⟩,_⟩:=x;exact aw e|rng lo i=>obtain⟨_,_,_,e⟩:=x;exact aw e|frz ob u=>obtain⟨e,_⟩:=x;exact aw e|tbl s=>exact aw (show h.get? a=some _ from x)|met f y=>exact aw (show h.get? a=some _ from x)|ext φ=>obtain⟨_,⟨_,e⟩,_⟩:=x;exact aw e
theorem Paired.mapP {β:Type}{F G:α->β->Prop}:∀{L:List α}{l:List β},Paired F L l->(∀a b,F a b->G a b)->Paired G L l
 |_,_,.nil,_=>.nil|_,_,.cons r t,f=>.cons (f _ _ r) (Paired.mapP t f)
def qd.stay (x:qd P w H h a o)(k:∀b u,(b=a∨H b=some (.own a))->h.get? b=some u->h'.get? b=some u)
  (A:∀b,H b=some (.own a)->H' b=some (.own a))(l:∀b xs,H b=some (.tup xs)->H' b=some (.tup xs)):qd P w H' h' a o:=by
 induction o with
 |lst xs=>obtain⟨z,i,n,r,e⟩:=x;exact⟨z,i,n,r,k _ _ (.inl rfl) e⟩|tup xs=>obtain⟨z,i,r,ob,e,c⟩:=x;exact⟨z,i,r,ob,k _ _ (.inl rfl) e,c⟩|dK kvs=>obtain⟨z,y,vs,r,ob,E,g,e,c⟩:=x;exact⟨z,y,vs,r,ob,E,g,k _ _ (.inl rfl) e,c⟩|dT kvs=>
  obtain⟨z,y,xs,r,ob,E,g,e,c⟩:=x;exact⟨z,y,xs,Paired.mapP r λp q z=>⟨z.1,l _ _ z.2.1,z.2.2⟩,ob,E,g,k _ _ (.inl rfl) e,c⟩
 |set S n=>obtain⟨ob,E,g,t,e,c⟩:=x;exact⟨ob,E,g,t,k _ _ (.inl rfl) e,c⟩|ins C J fs=>
  obtain⟨d,z,ne,e,M,⟨j,E,g,B,c⟩,r⟩:=x;exact⟨A _ d,z,ne,k _ _ (.inl rfl) e,M,⟨j,E,g,k _ _ (.inr d) B,c⟩,r⟩
 |own y=>obtain⟨ob,e⟩:=x;exact⟨ob,k _ _ (.inl rfl) e⟩|xd fs=>obtain⟨M,⟨j,E,g,e,c⟩,r⟩:=x;exact⟨M,⟨j,E,g,k _ _ (.inl rfl) e,c⟩,r⟩|rng lo D=>obtain⟨t,u,v,e⟩:=x;exact⟨t,u,v,k _ _ (.inl rfl) e⟩|frz ob u I=>obtain⟨e,q⟩:=x;exact⟨k _ _ (.inl rfl) e,I q⟩|tbl s=>
  have e:h.get? a=some { cls:=.none,data:=.fields s }:=x;show h'.get? a=some { cls:=.none,data:=.fields s };exact k a _ (.inl rfl) e
 |met f y=>
  have e:h.get? a=some (methodObj (.ref f) (.ref y)):=x;show h'.get? a=some (methodObj (.ref f) (.ref y));exact k a _ (.inl rfl) e
 |ext φ=>obtain⟨p,⟨o,e⟩,st⟩:=x;exact⟨st _ _ p λo q=>k _ _ (.inl rfl) q,⟨o,k _ _ (.inl rfl) e⟩,st⟩
theorem z9.lt (x:z9 P w H h)(e:H a=some o):a<h.objs.size:=(x a o e).lt
def z9.fresh (x:z9 P w H h)(e:h.objs.size<=a):H a=none:=by
 cases q:H a with
 |none=>rfl|some u=>exact absurd (ar (x.lt q) e) (aB _)
def z9.kept (x:z9 P w H h)(k:∀b u,h.get? b=some u->h'.get? b=some u):z9 P w H h':=λa o e=>
 (x a o e).stay (λb u _ q=>k b u q) (λ_ q=>q) λ_ _ q=>q
def z9.laid (x:z9 P w H h)(k:∀b u,h.get? b=some u->h'.get? b=some u)(p:h.objs.size<=a)(new:qd P w (upd H a o) h' a o):z9 P w (upd H a o) h':=λb u e=>by
 have hn:=x.fresh p
 by_cases d:b=a
 ·subst d;rw[ql]at e;cases e;exact new
 ·rw[zF d]at e
  exact(x b u e).stay (λc v _ q=>k c v q) (λc q=>by rw[zF (jl q hn)];exact q) λc xs q=>by rw[zF (jl q hn)];exact q
end
def Rd (H:Hp)(a:Addr)(u:HO):Prop:=H a=some u∨∃o,H a=some (.frz o u)
def Rd.ok {H:Hp}{u:HO}(r:Rd H a u)(x:z9 P w H h):qd P w H h a u:=by
 rcases r with r|⟨o,r⟩
 ·exact x a u r
 ·obtain⟨_,q⟩:=x a _ r
  exact q
noncomputable def ZK:Option HO->Prop
 |some (.lst _)=>True|some (.dK _)=>True|some (.dT _)=>True|some (.set _ _)=>True|some (.ins _ _ _)=>True|some (.ext _)=>True|_=>False
section
variable {H:Hp}{h':Heap}{x e:Addr}{o':HO}
def z9.write (ok:z9 P w H h)(M:ZK (H x))(he:e=x∨H e=some (.own x))(k:∀b u,b≠e->h.get? b=some u->h'.get? b=some u)(o:∃u,h'.get? e=some u)
  (new:qd P w (upd H x o') h' x o'):z9 P w (upd H x o') h':=λb u q=>by
 have n:∀c y,H c=some (.own y)->c≠x:=λc y r z=>by subst z;rw[r]at M;exact M
 have N:∀c xs,H c=some (.tup xs)->c≠x:=λc xs r z=>by subst z;rw[r]at M;exact M
 by_cases f:b=x
 ·subst f;rw[ql]at q;cases q;exact new
 ·rw[zF f]at q
  by_cases a:b=e
  ·have Q:H b=some (.own x):=by
    rcases he with z|z
    ·exact absurd (a.trans z) f
    ·rw[a];exact z
   rw[q]at Q;cases Q;obtain⟨v,g⟩:=o;exact⟨v,by rw[a];exact g⟩
  ·refine(ok b u q).stay (λc v d r=>k c v ?_ r) (λc r=>by rw[zF (n c b r)];exact r) λc xs r=>by rw[zF (N c xs r)];exact r
   rcases d with rfl|d
   ·exact a
   ·rintro rfl
    rcases he with z|z
    ·exact n c b d z
    ·rw[d]at z;cases z;exact f rfl
end
structure Un (fs ex:a8)(H H':Hp)(h h':Heap):Prop where
 keep:∀b o,h.get? b=some o->H b=none->b∉fs->b∉ex->h'.get? b=some o
 slot:∀b o,h.get? b=some o->H b=none->b∈fs->b∉ex->∃sl,h'.get? b=some { o with slots:=sl }
 free:∀b o,h.get? b=some o->H b=none->b∉ex->H' b=none
 there:∀b o,h.get? b=some o->b∉ex->∃o',h'.get? b=some o'
 tups:∀b xs,H b=some (.tup xs)->H' b=some (.tup xs)
 frzs:∀b o u,H b=some (.frz o u)->H' b=some (.frz o u)
 tbls:∀b ps,H b=some (.tbl ps)->∃more,H' b=some (.tbl (ps++more))
section
variable {fs ex:a8}{H H1:Hp}{h1 h':Heap}{x e:Addr}{o:HO}
def Un.any (u:Un fs ex H H1 h h1){ob:Obj}(q:h.get? b=some ob)(n:H b=none)(x:b∉ex):∃s,h1.get? b=some { ob with slots:=s }:=by
 by_cases a:b∈fs
 ·exact u.slot b ob q n a x
 ·exact⟨ob.slots,u.keep b ob q n a x⟩
def Un.kept (k:∀b u,h.get? b=some u->h'.get? b=some u):Un fs ex H H h h':=
 ⟨λb ob q _ _ _=>k b ob q,λb ob q _ _ _=>⟨ob.slots,k b ob q⟩,λ_ _ _ n _=>n,λb ob q _=>⟨ob,k b ob q⟩,λ_ _ q=>q,λ_ _ _ q=>q,λ_ p q=>⟨#[],by rw[q];simp⟩⟩
def Un.refl:Un fs ex H H h h:=Un.kept λ_ _ q=>q
def Un.laid (k:∀b u,h.get? b=some u->h'.get? b=some u)(p:h.objs.size<=a)(hn:H a=none):Un fs ex H (upd H a o) h h' where
 keep:=λb u q _ _ _=>k b u q
 slot:=λb u q _ _ _=>⟨u.slots,k b u q⟩
 free:=λb u q n _=>by rw[zF (az (ar (aw q) p))];exact n
 there:=λb u q _=>⟨u,k b u q⟩
 tups:=λb xs q=>by rw[zF (jl q hn)];exact q
 frzs:=λb u xs q=>by rw[zF (jl q hn)];exact q
 tbls:=λb P q=>⟨#[],by rw[zF (jl q hn),q];simp⟩
def Un.write (M:ZK (H x))(he:e=x∨H e=some (.own x))(k:∀b u,b≠e->h.get? b=some u->h'.get? b=some u)(c:∃u,h'.get? e=some u):Un fs ex H (upd H x o) h h':=by
 have d:∀b,H b=none->b≠x:=λb n z=>by subst z;rw[n]at M;exact M
 have f:∀b,H b=none->b≠e:=λb n z=>by
  subst z;rcases he with r|r
  ·exact d b n r
  ·rw[n]at r;cases r
 have hm:∀b u,H b=some u->¬ZK (some u)->b≠x:=λb u q nm z=>by subst z;rw[q]at M;exact nm M
 refine⟨λb u q n _ _=>k b u (f b n) q,λb u q n _ _=>⟨u.slots,k b u (f b n) q⟩,λb u q n _=>by rw[zF (d b n)];exact n,λb u q _=>?_,
  λb xs q=>by rw[zF (hm b _ q λz=>z)];exact q,λb u xs q=>by rw[zF (hm b _ q λz=>z)];exact q,λb p q=>⟨#[],by rw[zF (hm b _ q λz=>z),q];simp⟩⟩
 by_cases a:b=e
 ·subst a;exact c
 ·exact⟨u,k b u a q⟩
end
noncomputable def Jf (h:Heap)(H:Hp):a8:=(List.range h.objs.size).filter λa=>(H a).isSome
def yX (h:Heap)(H:Hp):Heap:=hideAll h (Jf h H)
def Rp (h:Heap)(H:Hp):(yX h H).objs.size=h.objs.size:=hideAll_size _ _
def Oe {H:Hp}{o:Obj}(e:h.get? b=some o)(n:H b=none):(yX h H).get? b=some o:=
 a4 _ e λhm=>by
  have q:(H b).isSome=true:=(List.mem_filter.mp hm).2;rw[n]at q;simp at q
def Nc {H:Hp}{o:Obj}(e:(yX h H).get? b=some o):h.get? b=some o/\H b=none:=by
 have E:h.get? b=some o:=of_hideAll (Jf h H) e;refine⟨E,?_⟩;cases q:H b with
 |none=>rfl|some x=>
  have hm:b∈Jf h H:=List.mem_filter.mpr ⟨List.mem_range.mpr (aw E),by simp[q]⟩
  have z:(yX h H).get? b=none:=hideAll_none (Jf h H) hm;rw[z]at e;cases e
structure Mod (K:Frag)(mg:bh)(base:Heap):Prop where
 kin:K.In base
 glob:base.Ns mainGlobals mg
 blt:∃mb,base.Ns builtinsNs mb/\∀x:Str,x ≠ "__name__" -> mb x=bootBuiltins x
 nolimit:base.NoLimit
structure Cx where
 prog:Program
 w:World
 K:Frag
 mg:Str->Option Value
 base:Heap
 A:Around
 N:bb
 s0:Shared
 H0:Hp
 env:Env
 outer:bj
 stack:bj
 ex:a8
 fn:Str->Bool
 calm:Bool
 pn:a9
 xe:Value->Shared->Prop
noncomputable def zK (l:bj):a8:=l.filterMap (·.frame)
abbrev Cx.fs (X:Cx):a8:=zK X.outer
def gL (sc:Scope)(x:Str):Prop:=sc.names.lookup x=some .local∨sc.names.lookup x=some .cell∨sc.names.lookup x=some .free
def Loc (sc:Scope)(x:Str):Prop:=sc.names.lookup x=some .local∨sc.names.lookup x=some .cell
def Look (env:Env)(h:Heap)(m:bh)(x:Str)(u:Value):Prop:=
 (env.kindOf x=some .local/\m x=some u)∨((env.kindOf x=some .cell∨env.kindOf x=some .free)/\∃c,env.cells.lookup x=some c/\h.IsCell c (some u))
structure Cx.Ok (X:Cx):Prop where
 mod:Mod X.K X.mg X.base
 kind:X.env.scope.kind=.function
 glob:X.env.globals=mainGlobals
 blt:X.env.builtins=builtinsNs
 above:X.s0.heap.objs.size<=X.env.locals
 inj:∀x y c,X.env.cells.lookup x=some c->X.env.cells.lookup y=some c->x=y
 has:∀x,(X.env.kindOf x=some .cell∨X.env.kindOf x=some .free)->∃c,X.env.cells.lookup x=some c
 cab:∀x c,X.fn x=true->X.env.cells.lookup x=some c->X.s0.heap.objs.size<=c
 hd:X.calm=true->X.A.handled=none
 frames:X.A.frames=some X.stack
 stk:X.stack=X.outer∨(X.stack=X.env::X.outer/\X.env.frame=some X.env.locals)
 exf:∀b∈X.ex,b≠X.env.locals/\∀x c,X.env.cells.lookup x=some c->c≠b
 bs:∀b o,X.base.get? b=some o->X.s0.heap.get? b=some o/\X.H0 b=none
 bsz:X.base.objs.size<=X.s0.heap.objs.size
 noex:∀b o,X.base.get? b=some o->b∉X.ex
 exfs:∀b∈X.ex,b∉X.fs
 funs:X.s0.heap.FunFrames X.base X.outer
 frf:∀b∈X.fs,X.H0 b=none
structure Inv (X:Cx)(pins:a9)(σ:List (Option V))(H:Hp)(s:Shared):Prop where
 ok:X.Ok
 os:s.os=X.s0.os
 bare:AllBare s.gens
 base:Un X.fs X.ex X.H0 H X.s0.heap s.heap
 loc:∃m,s.heap.Ns X.env.locals m/\∀(i:Nat)(x:Str)(v:V),X.N[i]? =some x->σ[i]? =some (some v)->gL X.env.scope x->∃u,RelV v u/\Look X.env s.heap m x u
 cell:∀x c,X.env.cells.lookup x=some c->∃v,s.heap.IsCell c v
 free:H X.env.locals=none
 freeC:∀x c,X.env.cells.lookup x=some c->H c=none
 pin:∀p∈X.pn++pins,s.heap.get? p.1=some p.2/\H p.1=none/\p.1≠X.env.locals/\p.1∉X.fs/\∀v,p.2.data≠.cell v
 hok:z9 X.prog X.w H s.heap
 len:σ.length=X.N.length
section
variable {X:Cx}{σ:List (Option V)}{H H':Hp}{h':Heap}
def Cx.Ok.nofr (ok:X.Ok){o:Obj}(e:X.base.get? b=some o):b∉X.fs:=λh=>by
 have:=(ok.funs.mem h).1
 rw[e]at this;cases this
theorem Inv.bs (I:Inv X pins σ H s):∀b o,X.base.get? b=some o->s.heap.get? b=some o/\H b=none:=λb o e=>
 ⟨I.base.keep b o (I.ok.bs b o e).1 (I.ok.bs b o e).2 (I.ok.nofr e) (I.ok.noex b o e),I.base.free b o (I.ok.bs b o e).1 (I.ok.bs b o e).2 (I.ok.noex b o e)⟩
def Inv.bk (I:Inv X pins σ H s):∀b o,X.base.get? b=some o->s.heap.get? b=some o:=λb o e=>(I.bs b o e).1
theorem Inv.mod (I:Inv X pins σ H s):Mod X.K X.mg X.base:=I.ok.mod
def Inv.kIn (I:Inv X pins σ H s):X.K.In s.heap:=I.ok.mod.kin.keeps I.bk
theorem Inv.lt (I:Inv X pins σ H s):X.env.locals<s.heap.objs.size:=let ⟨_,hn,_⟩:=I.loc;hn.lt
def Inv.sz (I:Inv X pins σ H s):X.s0.heap.objs.size<=s.heap.objs.size:=aW I.ok.above (le_of_lt I.lt)
def Inv.nofs (I:Inv X pins σ H s)(h:s.heap.objs.size<=a):a∉X.fs:=λc=>by
 obtain⟨_,o,b,_⟩:=I.ok.funs.mem c;exact absurd (ar (aw b) (aW I.sz h)) (aB _)
def Inv.cne (I:Inv X pins σ H s):∀x c,X.env.cells.lookup x=some c->c≠X.env.locals:=λx c e z=>by
 obtain⟨v,o,b,hd⟩:=I.cell x c e;obtain⟨m,⟨o',E,p,h,a,_⟩,_⟩:=I.loc;rw[z,h]at b;cases b;rw[a]at hd;cases hd
theorem Inv.funs (I:Inv X pins σ H s):s.heap.FunFrames X.base X.outer:=by
 have all:∀(l:bj),(∀b∈zK l,b∈X.fs)->X.s0.heap.FunFrames X.base l->s.heap.FunFrames X.base l:=by
  intro l
  induction l with
  |nil=>intro _ _;trivial|cons env r i=>
   intro c g;obtain⟨k,⟨L,o,hf,hn,f,hd⟩,d⟩:=g;have a:L∈X.fs:=c L (by unfold zK;rw[aQ,hf];exact aA)
   obtain⟨S,e⟩:=I.base.slot L o f (I.ok.frf L a) a λz=>I.ok.exfs L z a;exact⟨k,⟨L,_,hf,hn,e,hd⟩,i (λb h=>c b (by unfold zK;rw[aQ,hf];exact av _ h)) d⟩
 exact all X.outer (λ_ h=>h) I.ok.funs
theorem Inv.stack (I:Inv X pins σ H s):s.heap.FunFrames X.base X.stack:=by
 rcases I.ok.stk with e|⟨e,hf⟩
 ·rw[e];exact I.funs
 ·rw[e]
  obtain⟨m,hn,_⟩:=I.loc;refine .cons (by rw[I.ok.kind];decide) hf hn ?_ I.funs
  exact Heap.get?_none_of_le (aW I.ok.bsz I.ok.above)
def Inv.stkSub (I:Inv X pins σ H s):∀b∈zK X.stack,b∈X.env.locals::X.fs:=λb h=>by
 rcases I.ok.stk with e|⟨e,hf⟩
 ·rw[e]at h;exact av _ h
 ·rw[e]at h
  unfold zK at h;rw[aQ,hf]at h;exact h
def Inv.stkFree (I:Inv X pins σ H s):∀b∈zK X.stack,H b=none:=λb h=>by
 rcases bz.mp (I.stkSub b h) with e|h
 ·rw[e];exact I.free
 ·obtain⟨_,o,a,_⟩:=I.ok.funs.mem h
  exact I.base.free b o a (I.ok.frf b h) λz=>I.ok.exfs b z h
def Inv.step {g':Array GenState}{d':Drawn}{ch:a8}(I:Inv X pins σ H s)
  (a:∀b∈ch,(b∈X.ex∨X.s0.heap.objs.size<=b)/\b≠X.env.locals/\(∀x c,X.env.cells.lookup x=some c->c≠b)/\∀p∈X.pn++pins,p.1≠b)
  (keep:∀b o,b≠X.env.locals->b∉X.fs->b∉ch->s.heap.get? b=some o->H b=none->h'.get? b=some o)
  (slot:∀b o,b≠X.env.locals->b∈X.fs->b∉ch->s.heap.get? b=some o->H b=none->∃t,h'.get? b=some { o with slots:=t })(free:∀b o,b∉ch->s.heap.get? b=some o->H b=none->H' b=none)
  (there:∀b o,b∉ch->s.heap.get? b=some o->∃o',h'.get? b=some o')
  (tups:∀b xs,H b=some (.tup xs)->H' b=some (.tup xs))(frzs:∀b o u,H b=some (.frz o u)->H' b=some (.frz o u))(tbls:∀b P,H b=some (.tbl P)->∃more,H' b=some (.tbl (P++more)))
  (ns:∀m,s.heap.Ns X.env.locals m->h'.Ns X.env.locals m)(hok:z9 X.prog X.w H' h')(K:AllBare g'):
  Inv X pins σ H' { s with heap:=h',gens:=g',drawn:=d',toks:=t' }:=by
 have L:∀b o,X.s0.heap.get? b=some o->b≠X.env.locals:=λb o e=>az (ar (aw e) I.ok.above);have C:∀b o,X.s0.heap.get? b=some o->b∉X.ex->b∉ch:=λb o e h f=>by
  rcases(a b f).1 with z|z
  ·exact h z
  ·exact absurd (ar (aw e) z) (aB _)
 have cellK:∀x c,X.env.cells.lookup x=some c->∀v,s.heap.IsCell c v->h'.IsCell c v:=λx c e v ⟨o,g,hd⟩=>by
  have N:c∉ch:=λz=>(a c z).2.2.1 x c e rfl
  by_cases B:c∈X.fs
  ·obtain⟨t,q⟩:=slot c o (I.cne x c e) B N g (I.freeC x c e)
   exact⟨_,q,hd⟩
  ·exact⟨o,keep c o (I.cne x c e) B N g (I.freeC x c e),hd⟩
 refine⟨I.ok,I.os,K,⟨λb o e n f h=>?_,λb o e n f h=>?_,λb o e n h=>?_,λb o e h=>?_,λb xs e=>tups b xs (I.base.tups b xs e),λb o xs e=>frzs b o xs (I.base.frzs b o xs e),λb P e=>?_⟩,?_,λx c e=>?_,?_,λx c e=>?_,λp A=>?_,hok,I.len⟩
 ·exact keep b o (L b o e) f (C b o e h) (I.base.keep b o e n f h) (I.base.free b o e n h)
 ·obtain⟨t,E⟩:=I.base.slot b o e n f h
  obtain⟨S,j⟩:=slot b _ (L b o e) f (C b o e h) E (I.base.free b o e n h);exact⟨S,j⟩
 ·obtain⟨o',E⟩:=I.base.there b o e h
  exact free b o' (C b o e h) E (I.base.free b o e n h)
 ·obtain⟨o',E⟩:=I.base.there b o e h
  exact there b o' (C b o e h) E
 ·obtain⟨D,E⟩:=I.base.tbls b P e
  obtain⟨M,j⟩:=tbls b _ E;exact⟨D++M,by rw[j,Array.append_assoc]⟩
 ·obtain⟨m,hn,J⟩:=I.loc
  refine⟨m,ns m hn,λi x v E j Q=>?_⟩;obtain⟨u,r,l⟩:=J i x v E j Q;refine⟨u,r,?_⟩;rcases l with l|⟨k,c,e,z⟩
  ·exact .inl l
  ·exact .inr ⟨k,c,e,cellK x c e _ z⟩
 ·obtain⟨v,z⟩:=I.cell x c e
  exact⟨v,cellK x c e v z⟩
 ·obtain⟨m,⟨o,_,_,g,_⟩,_⟩:=I.loc
  exact free _ o (λz=>(a _ z).2.1 rfl) g I.free
 ·obtain⟨v,o,g,hd⟩:=I.cell x c e
  exact free c o (λz=>(a c z).2.2.1 x c e rfl) g (I.freeC x c e)
 ·obtain⟨e,n,ne,y,d⟩:=I.pin p A
  have N:p.1∉ch:=λz=>(a p.1 z).2.2.2 p A rfl;exact⟨keep p.1 p.2 ne y N e n,free p.1 p.2 N e n,ne,y,d⟩
def Inv.un (I:Inv X pins σ H s)(u:Un X.fs [] H H' s.heap h')(hok:z9 X.prog X.w H' h'):Inv X pins σ H' { s with heap:=h',toks:=t' }:=by
 obtain⟨m,⟨o,g,p,d,r⟩,_⟩:=id I.loc;obtain⟨S,L⟩:=u.any d I.free (by simp)
 exact I.step (g':=s.gens) (d':=s.drawn) (ch:=[]) (λ_ z=>nomatch z) (λb o _ a _ e n=>u.keep b o e n a (by simp)) (λb o _ a _ e n=>u.slot b o e n a (by simp)) (λb o _ e n=>u.free b o e n (by simp)) (λb o _ e=>u.there b o e (by simp)) u.tups u.frzs u.tbls (λM hm=>by
  obtain⟨o',E,c,h,f⟩:=hm;rw[d]at h;cases h;exact⟨_,E,c,L,f⟩) hok I.bare
def Inv.call {g':Array GenState}{d':Drawn}{ch:a8}(I:Inv X pins σ H s)(u:Un (zK X.stack) ch H H' s.heap h')(hok:z9 X.prog X.w H' h')(j:AllBare g')
  (d:∀b∈ch,(b∈X.ex∨X.s0.heap.objs.size<=b)/\b≠X.env.locals/\(∀x c,X.env.cells.lookup x=some c->c≠b)/\∀p∈X.pn++pins,p.1≠b):
  Inv X pins σ H' { s with heap:=h',gens:=g',drawn:=d',toks:=t' }:=by
 obtain⟨m,⟨o,l,q,g,r⟩,_⟩:=id I.loc;obtain⟨S,L⟩:=u.any g I.free λz=>(d _ z).2.1 rfl;exact I.step (ch:=ch) d (λb o L k h e n=>u.keep b o e n (λz=>(bz.mp (I.stkSub b z)).elim L k) h) (λb o _ _ h e n=>u.any e n h) (λb o h e n=>u.free b o e n h) (λb o h e=>u.there b o e h) u.tups u.frzs u.tbls (λM hm=>by
  obtain⟨o',E,f,a,i⟩:=hm;rw[g]at a;cases a;exact⟨_,E,f,L,i⟩) hok j
def Inv.turned {it:Addr}(I:Inv X pins σ H s)(k:∀b o,b≠it->s.heap.get? b=some o->h'.get? b=some o)(hn:H it=none)(L:it≠X.env.locals)
  (i:it∈X.ex∨X.s0.heap.objs.size<=it)(g:∀x c,X.env.cells.lookup x=some c->c≠it)(f:∀p∈X.pn++pins,p.1≠it):Inv X pins σ H { s with heap:=h',toks:=t' }:=by
 have N:∀b u,H b=some u->b≠it:=λb u e z=>by rw[z,hn]at e;cases e
 refine I.step (g':=s.gens) (d':=s.drawn) (ch:=[it]) (λb d=>?_) (λb o _ _ h e _=>k b o (λz=>h (by simp[z])) e) (λb o _ _ h e _=>⟨o.slots,k b o (λz=>h (by simp[z])) e⟩) (λ_ _ _ _ n=>n)
  (λb o h e=>⟨o,k b o (λz=>h (by simp[z])) e⟩) (λ_ _ e=>e) (λ_ _ _ e=>e) (λb P e=>⟨#[],by rw[e];simp⟩) (λm hm=>?_) (λb u e=>?_) I.bare
 ·have e:b=it:=by simpa using d
  subst e;exact⟨i,L,g,f⟩
 ·obtain⟨o,E,j,a,r⟩:=hm
  exact⟨o,E,j,k _ o (Ne.symm L) a,r⟩
 ·refine(I.hok b u e).stay (λc v h q=>k c v ?_ q) (λ_ q=>q) λ_ _ q=>q
  rcases h with z|z
  ·rw[z];exact N b u e
  ·exact N c _ z
def Inv.tok (I:Inv X pins σ H s)(t:Nat):Inv X pins σ H { s with toks:=t }:=I.un (h':=s.heap) (t':=t) Un.refl I.hok
theorem Inv.kept (I:Inv X pins σ H s)(k:∀b u,s.heap.get? b=some u->h'.get? b=some u):Inv X pins σ H { s with heap:=h',toks:=t' }:=I.un (Un.kept k) (I.hok.kept k)
theorem Inv.laid {o:HO}(I:Inv X pins σ H s)(k:∀b u,s.heap.get? b=some u->h'.get? b=some u)(h:s.heap.objs.size<=a)(new:qd X.prog X.w (upd H a o) h' a o):
  Inv X pins σ (upd H a o) { s with heap:=h',toks:=t' }:=I.un (Un.laid k h (I.hok.fresh h)) (I.hok.laid k h new)
theorem Inv.write {x e:Addr}{o:HO}(I:Inv X pins σ H s)(M:ZK (H x))(he:e=x∨H e=some (.own x))(k:∀b u,b≠e->s.heap.get? b=some u->h'.get? b=some u)(h:∃u,h'.get? e=some u)
  (new:qd X.prog X.w (upd H x o) h' x o):Inv X pins σ (upd H x o) { s with heap:=h',toks:=t' }:=I.un (Un.write M he k h) (I.hok.write M he k h new)
def Inv.pins_of {P:a9}(I:Inv X pins σ H s)(h:∀p∈P,s.heap.get? p.1=some p.2/\H p.1=none/\p.1≠X.env.locals/\p.1∉X.fs/\∀v,p.2.data≠.cell v):Inv X P σ H s:=
 ⟨I.ok,I.os,I.bare,I.base,I.loc,I.cell,I.free,I.freeC,λp a=>(List.mem_append.mp a).elim (λz=>I.pin p (List.mem_append_left _ z)) (h p),I.hok,I.len⟩
def J5 (h:N.Nodup)(a:N[i]? =some x)(b:N[j]? =some x):i=j:=by
 obtain⟨c,E⟩:=bx.mp a;obtain⟨H,e⟩:=bx.mp b;exact(List.getElem_inj h).mp (E.trans e.symm)
def Gn {A:Around}{v:V}{Q:Unit->Shared->Prop}(I:Inv X pins σ H s)(hN:X.N.Nodup)(U:X.N[i]? =some x)(t:Loc X.env.scope x)(r:RelV v u)
  (h:∀s',Inv X pins (σ.set i (some v)) H s'->(∃a,Heap.SameBut a s.heap s'.heap/\(a=X.env.locals∨X.env.cells.lookup x=some a))->Q () s')(hf:X.fn x=true∨X.env.scope.names.lookup x=some .local:=by first|exact .inl rfl|exact .inr rfl|assumption):wpAny M A (storeName X.env x u) Q E s:=by
 obtain⟨m,hn,hl⟩:=id I.loc;have Y:(X.env.scope.kind==.class || (X.env.scope.kind==.module&&X.env.locals != X.env.globals))=false:=by rw[I.ok.kind];rfl
 have J:i < σ.length:=by rw[I.len];exact(bx.mp U).1
 have cne:=I.cne;have tracked:∀{a:Addr}{h':Heap},(∃o,s.heap.get? a=some o/\H a=none)->Heap.SameBut a s.heap h'->z9 X.prog X.w H h':=λ {a h'} ha f b ob e=>by
  obtain⟨_,_,B⟩:=ha;refine(I.hok b ob e).stay (λc w' l q=>(f.2 c ?_).trans q) (λ_ q=>q) λ_ _ q=>q
  rintro rfl
  rcases l with rfl|l
  ·rw[B]at e;cases e
  ·rw[B]at l;cases l
 rcases t with D|D
 ·refine wpAny_storeName_local D hn (λh' hn' f=>?_) Y
  obtain⟨oL,_,_,hoL,_⟩:=id hn;refine h _ ⟨I.ok,I.os,I.bare,⟨λb o e n P t=>?_,λb o e n P t=>?_,I.base.free,λb o e t=>?_,I.base.tups,I.base.frzs,I.base.tbls⟩,⟨_,hn',λj y v' g C e3=>?_⟩,λy c e=>?_,I.free,I.freeC,λp hp=>?_,tracked ⟨oL,hoL,I.free⟩ f,by simpa using I.len⟩ ⟨_,f,.inl rfl⟩
  ·exact(f.2 b (az (ar (aw e) I.ok.above))).trans (I.base.keep b o e n P t)
  ·obtain⟨sl,g⟩:=I.base.slot b o e n P t
   exact⟨sl,(f.2 b (az (ar (aw e) I.ok.above))).trans g⟩
  ·obtain⟨o',g⟩:=I.base.there b o e t
   exact⟨o',(f.2 b (az (ar (aw e) I.ok.above))).trans g⟩
  ·by_cases K:j=i
   ·subst K
    rw[U]at g;cases g;rw[aF J]at C;cases C;exact⟨u,r,.inl ⟨D,by simp⟩⟩
   ·rw[aH (Ne.symm K)]at C
    obtain⟨u',r',q⟩:=hl j y v' g C e3;refine⟨u',r',?_⟩;rcases q with ⟨k,e⟩|⟨k,c,e,z⟩
    ·refine .inl ⟨k,?_⟩
     have:y≠x:=λe=>K (J5 hN g (e ▸ U))
     simp[this,e]
    ·exact .inr ⟨k,c,e,z.sameBut f (cne y c e)⟩
  ·obtain⟨w',z⟩:=I.cell y c e
   exact⟨w',z.sameBut f (cne y c e)⟩
  ·obtain⟨e,n,ne,nf,d⟩:=I.pin p hp
   exact⟨(f.2 p.1 ne).trans e,n,ne,nf,d⟩
 ·have L:X.fn x=true:=by
   rcases hf with z|z
   ·exact z
   ·rw[z]at D;cases D
  obtain⟨c,l⟩:=I.ok.has x (.inl D);obtain⟨w',z⟩:=I.cell x c l;refine wpAny_storeName_cell I.ok.kind D l z (λh' hc' f=>?_);obtain⟨oc,T,S⟩:=id z;refine h { s with heap:=h' } ⟨I.ok,I.os,I.bare,⟨λb o e n P t=>?_,λb o e n P t=>?_,I.base.free,λb o e t=>?_,I.base.tups,I.base.frzs,I.base.tbls⟩,⟨m,hn.sameBut f (Ne.symm (cne x c l)),λj y v' g C e3=>?_⟩,λy c' e=>?_,I.free,I.freeC,λp hp=>?_,tracked ⟨oc,T,I.freeC x c l⟩ f,by simpa using I.len⟩ ⟨c,f,.inr l⟩
  ·exact(f.2 b (az (ar (aw e) (I.ok.cab x c L l)))).trans (I.base.keep b o e n P t)
  ·obtain⟨sl,g⟩:=I.base.slot b o e n P t
   exact⟨sl,(f.2 b (az (ar (aw e) (I.ok.cab x c L l)))).trans g⟩
  ·obtain⟨o',g⟩:=I.base.there b o e t
   exact⟨o',(f.2 b (az (ar (aw e) (I.ok.cab x c L l)))).trans g⟩
  ·by_cases K:j=i
   ·subst K
    rw[U]at g;cases g;rw[aF J]at C;cases C;exact⟨u,r,.inr ⟨.inl D,c,l,hc'⟩⟩
   ·rw[aH (Ne.symm K)]at C
    obtain⟨u',r',q⟩:=hl j y v' g C e3;refine⟨u',r',?_⟩;rcases q with q|⟨k,c',e,z'⟩
    ·exact .inl q
    ·refine .inr ⟨k,c',e,z'.sameBut f ?_⟩
     rintro rfl
     exact K (J5 hN g (I.ok.inj _ _ _ e l ▸ U))
  ·by_cases Z:c'=c
   ·subst Z;exact⟨_,hc'⟩
   ·obtain⟨w2,z2⟩:=I.cell y c' e
    exact⟨w2,z2.sameBut f Z⟩
  ·obtain⟨e,n,ne,nf,d⟩:=I.pin p hp
   refine⟨(f.2 p.1 ?_).trans e,n,ne,nf,d⟩;intro q;rw[q,T]at e;have q':oc=p.2:=aj e;exact d w' (by rw[<- q'];exact S)
def Qc {A:Around}{v:V}{Q:Unit->Shared->Prop}(I:Inv X pins σ H s)(c:X.N.Nodup)(b:X.N[i]? =some x)(a:Loc X.env.scope x)(r:RelV v u)
  (h:∀s',Inv X pins (σ.set i (some v)) H s'->Q () s')(hf:X.fn x=true∨X.env.scope.names.lookup x=some .local:=by first|exact .inl rfl|exact .inr rfl|assumption):wpAny M A (storeName X.env x u) Q E s:=
 Gn I c b a r (λs' d _=>h s' d) hf
def Inv.call' {ch:a8}(I:Inv X pins σ H s)(o:s'.os=s.os)(u:Un (zK X.stack) ch H H' s.heap s'.heap)(hok:z9 X.prog X.w H' s'.heap)(g:AllBare s'.gens)
  (h:∀b∈ch,(b∈X.ex∨X.s0.heap.objs.size<=b)/\b≠X.env.locals/\(∀x c,X.env.cells.lookup x=some c->c≠b)/\∀p∈X.pn++pins,p.1≠b):Inv X pins σ H' s':=by
 obtain⟨h',g',d',t',o'⟩:=s';have e:o'=s.os:=o;subst e;exact I.call (g':=g') (t':=t') (d':=d') u hok g h
end
abbrev XK:=Value->Option Addr->Hp->Prop
noncomputable abbrev St:=List (Option V)
abbrev VK:=V->Hp->Prop
abbrev TE:=St->Hp->VK->Prop
abbrev TT:=St->Hp->(Bool->Hp->Prop)->Prop
abbrev TA:=St->Hp->(List V->Hp->Prop)->Prop
structure Ends where
 nx:St->Hp->Prop
 rt:VK
 bk:St->Hp->Prop:=λ_ _=>False
 ct:St->Hp->Prop:=λ_ _=>False
abbrev TS:=Ends->St->Hp->Prop
inductive EP (X:Cx)(pins:a9)(σ:St)(Q:VK)(u:Value)(s':Shared):Prop
 |mk (v:V) (H':Hp) (I:Inv X pins σ H' s') (r:RelV v u) (q:Q v H')
def TP (X:Cx)(pins:a9)(σ:St)(Q:Bool->Hp->Prop)(b:Bool)(s':Shared):Prop:=∃H,Inv X pins σ H s'/\Q b H
inductive AP (X:Cx)(pins:a9)(σ:St)(Q:List V->Hp->Prop)(us:a7)(s':Shared):Prop
 |mk (vs:List V) (H':Hp) (I:Inv X pins σ H' s') (r:Vals vs us) (q:Q vs H')
def SP (X:Cx)(pins:a9)(D:Ends)(f:Flow)(s':Shared):Prop:=
 match f with
 |.next=>∃a H,Inv X pins a H s'/\D.nx a H|.brk=>∃a H,Inv X pins a H s'/\D.bk a H|.cont=>∃a H,Inv X pins a H s'/\D.ct a H|.ret u=>∃v a H,Inv X pins a H s'/\RelV v u/\D.rt v H
def PE (X:Cx)(e:Expr)(t:TE):Prop:=
 ∀(pins:a9)(s:Shared)(σ:St)(H:Hp)(Q:VK),Inv X pins σ H s->t σ H Q->wpAny (model X.prog X.w) X.A (eval e X.env) (EP X pins σ Q) X.xe s
def PT (X:Cx)(e:Expr)(t:TT):Prop:=
 ∀(pins:a9)(s:Shared)(σ:St)(H:Hp)(Q:Bool->Hp->Prop),Inv X pins σ H s->t σ H Q->wpAny (model X.prog X.w) X.A (isTrue e X.env (eval e X.env)) (TP X pins σ Q) X.xe s
def PW (X:Cx)(e:Expr)(t:TT):Prop:=
 ∀(whole:Sem Value)(pins:a9)(s:Shared)(σ:St)(H:Hp)(Q:Bool->Hp->Prop),Inv X pins σ H s->t σ H Q->wpAny (model X.prog X.w) X.A (isTrue e X.env whole) (TP X pins σ Q) X.xe s
def PW.pt {X:Cx}{t:TT}(h:PW X e t):PT X e t:=h _
def PA (X:Cx)(e:bf)(t:TA):Prop:=
 ∀(pos:Pos)(pins:a9)(s:Shared)(σ:St)(H:Hp)(Q:List V->Hp->Prop),Inv X pins σ H s->t σ H Q->wpAny (model X.prog X.w) X.A (spliced (backTo pos (starEach e X.env))) (AP X pins σ Q) X.xe s
def PS (X:Cx)(st:Stmt)(t:TS):Prop:=
 ∀(pins:a9)(s:Shared)(σ:St)(H:Hp)(D:Ends),Inv X pins σ H s->t D σ H->wpAny (model X.prog X.w) X.A (exec st X.env) (SP X pins D) X.xe s
def jb (X:Cx)(st:br)(t:TS):Prop:=
 ∀(pins:a9)(s:Shared)(σ:St)(H:Hp)(D:Ends),Inv X pins σ H s->t D σ H->wpAny (model X.prog X.w) X.A (execs st X.env) (SP X pins D) X.xe s
def zw {t:Sem α}{Q Q':α->Shared->Prop}{A:Around}(h:wpAny M A t Q E s)(H:∀a s,Q a s->Q' a s):wpAny M A t Q' E s:=wpAny_mono h H λ_ _ x=>x
section
variable {X:Cx}
noncomputable def IW (i:Nat):TE:=λσ H Q=>∃v,σ[i]? =some (some v)/\Q v H
noncomputable def tC (v:V):TE:=λ_ H Q=>Q v H
def Xt (j:X.N[i]? =some x)(f:gL X.env.scope x)(hd:(x==("__debug__":Str))=false:=by decide)(d:(x==("__classdict__":Str))=false:=by decide):PE X (.Name x pos) (IW i):=by
 intro pins s σ H Q I h;obtain⟨v,e,h⟩:=h;obtain⟨m,hn,g⟩:=I.loc;obtain⟨u,r,l⟩:=g i x v j e f;have fin:EP X pins σ Q u s:=⟨v,H,I,r,h⟩;rcases l with ⟨k,hm⟩|⟨k,c,b,a⟩
 ·exact wpAny_Name (wpAny_loadName_local I.ok.kind k hn hm fin) hd
 ·rcases k with k|k
  ·exact wpAny_Name (wpAny_loadName_cell I.ok.kind k b a fin) hd
  ·exact wpAny_Name (wpAny_loadName_free I.ok.kind k b a fin d) hd
def Lx {i j pos}:PE X (.Constant (.int i) j pos) (tC (.int i)):=λ_ _ _ H _ I h=>wpAny_Constant_int ⟨.int i,H,I.tok _,⟨_,rfl⟩,h⟩
def LS {b j pos}:PE X (.Constant (.bool b) j pos) (tC (.bl b)):=λ_ _ _ H _ I h=>Constant_bool ⟨.bl b,H,I,rfl,h⟩
def Mp {j pos}:PE X (.Constant .none j pos) (tC .non):=λ_ _ _ H _ I h=>Constant_none ⟨.non,H,I,rfl,h⟩
def Mb {x j pos}:PE X (.Constant (.str x) j pos) (tC (.str x)):=λ_ _ _ H _ I h=>Calls.Constant_str ⟨.str x,H,I.tok _,⟨_,rfl⟩,h⟩
def Gl (X:Cx)(x:Str):Prop:=X.env.kindOf x=some .globalImplicit
def gm {σ:St}{H:Hp}(I:Inv X pins σ H s)(g:Gl X x)(hm:X.mg x=some u)(h:Q u s)
  (hd:(x==("__debug__":Str))=false:=by decide):wpAny (model X.prog X.w) X.A (eval (.Name x pos) X.env) Q E s:=
 Calls.Name_function_global I.ok.kind g (Calls.loadGlobal_global (by rw[I.ok.glob];exact I.mod.glob.keeps I.bk) hm h) hd
def wy {σ:St}{H:Hp}(I:Inv X pins σ H s)(g:Gl X x)(hm:X.mg x=none)(v:bootBuiltins x=some u)(h:Q u s)
  (hn:x ≠ "__name__":=by decide)(hd:(x==("__debug__":Str))=false:=by decide):wpAny (model X.prog X.w) X.A (eval (.Name x pos) X.env) Q E s:=by
 obtain⟨M,b,a⟩:=I.mod.blt;exact Calls.Name_function_global I.ok.kind g (Calls.loadGlobal_builtin (by rw[I.ok.glob];exact I.mod.glob.keeps I.bk) hm (by rw[I.ok.blt];exact b.keeps I.bk) ((a x hn).trans v) h) hd
def gn {v:V}(g:Gl X x)(hm:X.mg x=some u)(r:RelV v u)(hd:(x==("__debug__":Str))=false:=by decide):PE X (.Name x pos) (tC v):=
 λ_ _ _ H _ I h=>gm I g hm ⟨v,H,I,r,h⟩ hd
def Xa {v:V}(g:Gl X x)(hm:X.mg x=none)(a:bootBuiltins x=some u)(r:RelV v u)(hn:x ≠ "__name__":=by decide)(hd:(x==("__debug__":Str))=false:=by decide):PE X (.Name x pos) (tC v):=
 λ_ _ _ H _ I h=>wy I g hm a ⟨v,H,I,r,h⟩ hn hd
variable {a b:Expr}{ta tb:TE}
def PH (b:Expr)(h:op≠.In)(H:op≠.NotIn):behindInMarks op b=false:=by
 have E:(op==CmpOp.In)=false:=by cases op<;>first|rfl|exact absurd rfl h
 have e:(op==CmpOp.NotIn)=false:=by cases op<;>first|rfl|exact absurd rfl H
 cases b<;>simp[behindInMarks,E,e]
noncomputable def tB (t:TE):TT:=λσ H Q=>t σ H λx H1=>∃c,x=.bl c/\Q c H1
def M7 {t:TE}(h:PE X e t)(he:∀whole,isTrue e X.env whole=(do let v <- whole;standAt e.pos;holding [v] (truthy v)):=by intro _;rfl):PT X e (tB t):=by
 intro pins s σ H Q I hw;refine isTrue_plain (zw (h pins s σ H _ I hw) λv s1 ⟨x,H1,i,r,a⟩=>?_) (he _);obtain⟨d,rfl,q⟩:=a;cases r;exact wpAny_truthy_bool ⟨H1,i,q⟩
variable {tA tB':TT}{rest:bf}
noncomputable def Hf (t u:TT):TT:=λσ H Q=>t σ H λc H1=>if c=true then u σ H1 Q else Q false H1
noncomputable def HQ (t u:TT):TT:=λσ H Q=>t σ H λc H1=>if c=true then Q true H1 else u σ H1 Q
noncomputable def HF (t:TT):TT:=λσ H Q=>t σ H λc H1=>Q (!c) H1
def pw_and1 (b:PT X a tA):PW X (.BoolOp .And [a] pos) tA:=by
 intro w pins s σ H Q I h;refine isTrue_and (zw (b pins s σ H Q I h) λc s1 e=>?_);cases c with
 |true=>exact isTrue_and_nil e|false=>exact e
def pw_or1 (b:PT X a tA):PW X (.BoolOp .Or [a] pos) tA:=by
 intro w pins s σ H Q I h;refine isTrue_or (zw (b pins s σ H Q I h) λc s1 e=>?_);cases c with
 |false=>exact isTrue_or_nil e|true=>exact e
def pw_and (e:PT X a tA)(d:PW X (.BoolOp .And (b::rest) pos) tB'):PW X (.BoolOp .And (a::b::rest) pos) (Hf tA tB'):=by
 intro w pins s σ H Q I h;refine isTrue_and (zw (e pins s σ H _ I h) λc s1 ⟨H1,i,q⟩=>?_);cases c with
 |true=>exact d w pins s1 σ H1 Q i q|false=>exact⟨H1,i,q⟩
def pw_or (e:PT X a tA)(d:PW X (.BoolOp .Or (b::rest) pos) tB'):PW X (.BoolOp .Or (a::b::rest) pos) (HQ tA tB'):=by
 intro w pins s σ H Q I h;refine isTrue_or (zw (e pins s σ H _ I h) λc s1 ⟨H1,i,q⟩=>?_);cases c with
 |true=>exact⟨H1,i,q⟩|false=>exact d w pins s1 σ H1 Q i q
def Mm (b:PT X a tA):PT X (.UnaryOp .Not a pos) (HF tA):=by
 intro pins s σ H Q I h;exact isTrue_not (b pins s σ H (λc H1=>Q (!c) H1) I h)
noncomputable def Iw (T t:TE):TE:=λσ H Q=>T σ H λx H1=>∃c,x=.bl c/\if c=true then t σ H1 Q else Q (.bl false) H1
noncomputable def Iv (t:TE):TE:=λσ H Q=>t σ H λx H1=>∃c,x=.bl c/\Q (.bl (!c)) H1
def MR {op}{t:TE}(h:PE X a t):PE X (.BoolOp op [a] pos) t:=λpins s σ H Q I hw=>BoolOp_one (h pins s σ H Q I hw)
def MU (e:PE X a ta)(d:PE X (.BoolOp .And (b::rest) pos) tb):PE X (.BoolOp .And (a::b::rest) pos) (Iw ta tb):=by
 intro pins s σ H Q I h;refine BoolOp_and (zw (e pins s σ H _ I h) λv s1 ⟨x,H1,i,r,q⟩=>?_);obtain⟨c,rfl,q⟩:=q;cases r;refine wpAny_truthy_bool ?_;cases c with
 |true=>exact d pins s1 σ H1 Q i q|false=>exact⟨.bl false,H1,i,rfl,q⟩
def Mh (b:PE X a ta):PE X (.UnaryOp .Not a pos) (Iv ta):=by
 intro pins s σ H Q I h;refine UnaryOp_ (zw (b pins s σ H _ I h) λv s1 ⟨x,H1,i,r,q⟩=>?_);obtain⟨c,rfl,q⟩:=q;cases r;exact not_of (wpAny_truthy_bool ⟨.bl (!c),H1,i,rfl,q⟩)
noncomputable def HR (t:TT)(a T:TE):TE:=λσ H Q=>t σ H λc H1=>if c=true then a σ H1 Q else T σ H1 Q
def P8 {c:Expr}(e:PT X c tA)(g:PE X a ta)(f:PE X b tb):PE X (.IfExp c a b pos) (HR tA ta tb):=by
 intro pins s σ H Q I h;refine wpAny_IfExp (zw (e pins s σ H _ I h) λd s1 ⟨H1,i,q⟩=>?_);cases d with
 |true=>exact g pins s1 σ H1 Q i q|false=>exact f pins s1 σ H1 Q i q
end
def z8 (K:Frag)(H:Hp)(a:Addr)(xs:List V):Prop:=
 Rd H a (.lst xs)∨
  ∃(o:Obj) (its:Array Value) (n:Nat),K.lookup a=some o/\o.cls=.type "list" /\ o.dict=none/\o.data=.seq its n/\its.size<=sizeLine/\Vals xs its.toList
def zP (K:Frag)(H:Hp)(a:Addr)(xs:List V):Prop:=
 Rd H a (.tup xs)∨
  ∃(o:Obj) (its:Array Value) (n:Nat),K.lookup a=some o/\(o.cls=.type "tuple" /\ o.dict=none)/\o.data=.seq its n/\its.size<=sizeLine/\Vals xs its.toList
noncomputable def Hs:Value->Option V
 |.none=>some .non|.bool b=>some (.bl b)|.int i _=>some (.int i)|.str x _=>some (.str x)|.bytes b _=>some (.byt b)|.float b _=>some (.flt b)|.ref a=>some (.ref a)|.type n=>some (.ty n)|_=>none
def RelV.abs {x:V}(r:RelV x u):Hs u=some x:=by
 cases x with
 |non=>cases r;rfl|bl _=>cases r;rfl|int _=>obtain⟨t,rfl⟩:=r;rfl|str _=>obtain⟨t,rfl⟩:=r;rfl|byt _=>obtain⟨t,rfl⟩:=r;rfl|flt _=>obtain⟨t,rfl⟩:=r;rfl|ref _=>cases r;rfl|ty _=>cases r;rfl
def RelV.inj {x y:V}(r:RelV x u)(q:RelV y u):x=y:=aj (r.abs.symm.trans q.abs)
theorem Vals.inj:∀{xs ys:List V}{us:a7},Vals xs us->Vals ys us->xs=ys
 |_,_,_,.nil,.nil=>rfl|_,_,_,.cons r t,.cons a t'=>by rw[r.inj a,Vals.inj t t']
section
variable {X:Cx}{σ:St}{H:Hp}{xs ys:List V}
def z8.of {K:Frag}(h:H a=some (.lst xs)):z8 K H a xs:=.inl (.inl h)
def zP.of {K:Frag}(h:H a=some (.tup xs)):zP K H a xs:=.inl (.inl h)
def Inv.list (I:Inv X pins σ H s)(h:z8 X.K H a xs):∃i:a7,Vals xs i/\PlainL s.heap a i.toArray/\xs.length<=sizeLine:=by
 rcases h with h|⟨o,i,n,k,c,hd,b,d,r⟩
 ·obtain⟨z,i,n,r,e⟩:=h.ok I.hok
  exact⟨i,r,⟨_,n,e,rfl,rfl,rfl⟩,z⟩
 ·refine⟨i.toList,r,⟨o,n,I.kIn a o k,c,hd,by simpa using b⟩,?_⟩
  have e:=r.length;simp only[length_toList]at e;omega
def Inv.tuple (I:Inv X pins σ H s)(h:zP X.K H a xs):∃i:a7,Vals xs i/\IsTup s.heap a i.toArray/\xs.length<=sizeLine:=by
 rcases h with h|⟨o,i,n,k,c,b,d,r⟩
 ·obtain⟨z,i,r,p⟩:=h.ok I.hok
  exact⟨i,r,p.tup,z⟩
 ·refine⟨i.toList,r,⟨o,I.kIn a o k,c.1,n,by simpa using b⟩,?_⟩
  have e:=r.length;simp only[length_toList]at e;omega
def Inv.list_inj (I:Inv X pins σ H s)(h:z8 X.K H a xs)(h':z8 X.K H a ys):xs=ys:=by
 obtain⟨i,r,⟨o,n,e,_,_,d⟩,_⟩:=I.list h;obtain⟨its',b,⟨o',N,E,_,_,d'⟩,_⟩:=I.list h';rw[e]at E;cases E;rw[d]at d';injection d' with D _
 have:i=its':=by simpa using congrArg Array.toList D
 subst this;exact r.inj b
def Inv.tuple_inj (I:Inv X pins σ H s)(h:zP X.K H a xs)(h':zP X.K H a ys):xs=ys:=by
 obtain⟨i,r,⟨o,e,_,n,d⟩,_⟩:=I.tuple h;obtain⟨its',b,⟨o',E,_,N,d'⟩,_⟩:=I.tuple h';rw[e]at E;cases E;rw[d]at d';injection d' with D _
 have:i=its':=by simpa using congrArg Array.toList D
 subst this;exact r.inj b
end
noncomputable abbrev Cx.wish (X:Cx)(E:bc):Cx:={ X with xe:=E }
noncomputable abbrev Cx.nox (X:Cx):Cx:=X.wish λ_ _=>False
theorem Cx.Ok.wish {X:Cx}(ok:X.Ok)(E:bc):(X.wish E).Ok:=
 ⟨ok.mod,ok.kind,ok.glob,ok.blt,ok.above,ok.inj,ok.has,ok.cab,ok.hd,ok.frames,ok.stk,ok.exf,ok.bs,ok.bsz,ok.noex,ok.exfs,ok.funs,ok.frf⟩
def Cx.Ok.unwish {X:Cx}(ok:(X.wish E).Ok):X.Ok:=
 ⟨ok.mod,ok.kind,ok.glob,ok.blt,ok.above,ok.inj,ok.has,ok.cab,ok.hd,ok.frames,ok.stk,ok.exf,ok.bs,ok.bsz,ok.noex,ok.exfs,ok.funs,ok.frf⟩
section
variable {X:Cx}{σ:St}{H:Hp}
theorem Inv.wish (I:Inv X pins σ H s)(E:bc):Inv (X.wish E) pins σ H s:=⟨I.ok.wish E,I.os,I.bare,I.base,I.loc,I.cell,I.free,I.freeC,I.pin,I.hok,I.len⟩
theorem Inv.unwish (I:Inv (X.wish E) pins σ H s):Inv X pins σ H s:=⟨I.ok.unwish,I.os,I.bare,I.base,I.loc,I.cell,I.free,I.freeC,I.pin,I.hok,I.len⟩
theorem SP.unwish {D:Ends}{f:Flow}(h:SP (X.wish E) pins D f s'):SP X pins D f s':=by
 cases f with
 |next=>obtain⟨a,H,I,q⟩:=h;exact⟨a,H,I.unwish,q⟩|brk=>obtain⟨a,H,I,q⟩:=h;exact⟨a,H,I.unwish,q⟩|cont=>obtain⟨a,H,I,q⟩:=h;exact⟨a,H,I.unwish,q⟩|ret u=>obtain⟨v,a,H,I,r,q⟩:=h;exact⟨v,a,H,I.unwish,r,q⟩
theorem PE.nox {t:TE}(h:PE X.nox e t):PE X e t:=λpins s σ H Q I hw=>
 wpAny_mono (h pins s σ H Q (I.wish _) hw) (λ_ _ ⟨v,a,i,r,q⟩=>⟨v,a,i.unwish,r,q⟩) λ_ _ z=>False.elim z
theorem PT.nox {t:TT}(h:PT X.nox e t):PT X e t:=λpins s σ H Q I hw=>
 wpAny_mono (h pins s σ H Q (I.wish _) hw) (λ_ _ ⟨a,i,q⟩=>⟨a,i.unwish,q⟩) λ_ _ z=>False.elim z
theorem jb.nox {st:br}{t:TS}(h:jb X.nox st t):jb X st t:=λpins s σ H D I hw=>
 wpAny_mono (h pins s σ H D (I.wish _) hw) (λ_ _ q=>q.unwish) λ_ _ z=>False.elim z
end
section
variable {X:Cx}{st:Stmt}{rest:br}{t u:TS}{te:TE}
noncomputable def IH:TS:=λD σ H=>D.nx σ H
noncomputable def Hv (t u:TS):TS:=λD σ H=>t { D with nx:=u D } σ H
def Nr:jb X [] IH:=λ_ _ σ H _ I h=>wpAny_execs_nil ⟨σ,H,I,h⟩
def PN (c:PS X st t)(b:jb X rest u):jb X (st::rest) (Hv t u):=by
 intro pins s σ H D I h;refine wpAny_execs_cons (zw (c pins s σ H { D with nx:=u D } I h) λf s1 q=>?_)
 cases f with
 |next=>
  obtain⟨a,d,i,q⟩:=q;exact b pins s1 a d D i q
 |ret v=>exact q|brk=>exact q|cont=>exact q
def Inv.quiet {σ:St}{H:Hp}(I:Inv X pins σ H s):interactive X.env=false:=by simp[interactive,I.ok.kind]
noncomputable def Ia (t:TE):TS:=λD σ H=>t σ H λ_ H1=>D.nx σ H1
def O2 (he:PE X e te)(a:swapsWith e none pos.line X.env=pure false:=by rfl):PS X (.Expr e pos) (Ia te):=by
 intro pins s σ H D I h;exact wpAny_Expr_any (zw (he pins s σ H _ I h) λv s1 ⟨x,H1,i,r,q⟩=>⟨σ,H1,i,q⟩) I.quiet a
noncomputable def IX (t:TE):TS:=λD σ H=>t σ H D.rt
def MB (he:PE X e te):PS X (.Return (some e) pos) (IX te):=by
 intro pins s σ H D I h;exact wpAny_Return_some (zw (he pins s σ H _ I h) λv s1 ⟨x,H1,i,r,q⟩=>⟨x,σ,H1,i,r,q⟩)
noncomputable def HA (c:TT)(t u:TS):TS:=λD σ H=>c σ H λb H1=>if b=true then t D σ H1 else u D σ H1
def IF {c:Expr}{a b:br}{T:TT}(e:PT X c T)(g:jb X a t)(f:jb X b u):PS X (.If c a b pos) (HA T t u):=by
 intro pins s σ H D I h;refine wpAny_If (zw (e pins s σ H _ I h) λd s1 ⟨H1,i,q⟩=>?_);cases d with
 |true=>exact g pins s1 σ H1 D i q|false=>exact f pins s1 σ H1 D i q
end
abbrev TG:=V->St->Hp->(St->Hp->Prop)->Prop
abbrev kF:=List V->St->Hp->(St->Hp->Prop)->Prop
def PG (X:Cx)(target:Expr)(t:TG):Prop:=
 ∀(pins:a9)(s:Shared)(σ:St)(H:Hp)(v:V)(u:Value)(Q:St->Hp->Prop),Inv X pins σ H s->RelV v u->t v σ H Q->
  wpAny (model X.prog X.w) X.A (assign target X.env u) (λ_ s'=>∃a h,Inv X pins a h s'/\Q a h) X.xe s
def gK (X:Cx)(T:bf)(t:kF):Prop:=
 ∀(pins:a9)(s:Shared)(σ:St)(H:Hp)(vs:List V)(us:a7)(Q:St->Hp->Prop),Inv X pins σ H s->Vals vs us->t vs σ H Q->
  wpAny (model X.prog X.w) X.A (assignInOrder ((assignEach T X.env).map (·.2)) us) (λ_ s'=>∃a h,Inv X pins a h s'/\Q a h) X.xe s
abbrev wJ:=V->V->V->Hp->(Hp->Prop)->Prop
def QZ (X:Cx)(t:wJ):Prop:=
 ∀(pins:a9)(s:Shared)(σ:St)(H:Hp)(o i v:V)(a I u:Value)(Q:Hp->Prop),Inv X pins σ H s->RelV o a->RelV i I->RelV v u->t o i v H Q->
  wpAny (model X.prog X.w) X.A (setItem a I u) (λ_ s'=>∃h,Inv X pins σ h s'/\Q h) X.xe s
abbrev Q7:=V->V->Hp->VK->Prop
def VC (X:Cx)(op:Operator)(t:Q7):Prop:=
 ∀(pins:a9)(s:Shared)(σ:St)(H:Hp)(x y:V)(v u:Value)(Q:VK),Inv X pins σ H s->RelV x v->RelV y u->t x y H Q->
  wpAny (model X.prog X.w) X.A (inplaceOp op v u) (EP X pins σ Q) X.xe s
section
variable {X:Cx}
noncomputable def Zi (i:Nat):TG:=λv σ H Q=>Q (σ.set i (some v)) H
def kJ (c:X.N.Nodup)(b:X.N[i]? =some x)(a:Loc X.env.scope x)(hf:X.fn x=true∨X.env.scope.names.lookup x=some .local:=by first|exact .inl rfl|exact .inr rfl|assumption):PG X (.Name x pos) (Zi i):=by
 intro pins s σ H v u Q I r h;exact wpAny_assign_Name (Qc I c b a r (λs' d=>⟨_,H,d,h⟩) hf)
noncomputable def X7:kF:=λvs σ H Q=>vs=[]/\Q σ H
noncomputable def XX (t:TG)(u:kF):kF:=λvs σ H Q=>∃v r,vs=v::r/\t v σ H λa h=>u r a h Q
def Ql:gK X [] X7:=by
 intro pins s σ H vs us Q I r h;obtain⟨e,h⟩:=h;subst e;cases r;exact assignInOrder_nil ⟨σ,H,I,h⟩
def kH {t:TG}{u:kF}(f:PG X e t)(d:gK X es u)
  (c:(assignEach (e::es) X.env).map (·.2)=assign e X.env::(assignEach es X.env).map (·.2):=by rfl):gK X (e::es) (XX t u):=by
 intro pins s σ H vs us Q I r h;obtain⟨v,g,E,h⟩:=h;subst E;cases r with
 |cons r b=>
  rw[c];refine assignInOrder_cons (zw (f pins s σ H _ _ _ I r h) λ_ s1 ⟨a,H1,i,q⟩=>?_);exact d pins s1 a H1 _ _ Q i b q
noncomputable def yD (K:Frag)(n:Nat)(t:kF):TG:=λv σ H Q=>∃a xs,v=.ref a/\zP K H a xs/\xs.length=n/\t xs σ H Q
def Yy {t:kF}(g:X.calm=true)(h:gK X es t)
  (hn:(assignEach es X.env).length=n:=by rfl)(c:(assignEach es X.env).findIdx? (·.1)=none:=by rfl):PG X (.Tuple es k pos) (yD X.K n t):=by
 intro pins s σ H v u Q I r hw;obtain⟨a,xs,E,q,l,hw⟩:=hw;subst E;cases r;obtain⟨i,d,f,z⟩:=I.tuple q;refine assign_Tuple_tuple (I.ok.hd g) f (by simp[hn,<- l,d.length]) c λh' x=>?_
 have j:Inv X pins σ H { s with heap:=h' }:=I.kept (t':=s.toks) λb o e=>x b o (az (aw e)) e
 exact h pins _ σ H xs _ Q j (by simpa using d) hw
noncomputable def Hc (to ti:TE)(t:wJ):TG:=λv σ H Q=>to σ H λo H1=>ti σ H1 λi a=>t o i v a λh=>Q σ h
def Lb {o i:Expr}{to ti:TE}{t:wJ}(f:PE X o to)(g:PE X i ti)(e:QZ X t)
  (j:∀v,assign (.Subscript o i pos) X.env v=(do
   let ov <- holding [v] (eval o X.env)
   let iv <- holding [v,ov] (eval i X.env)
   standAt pos
   holding [v,ov,iv] (setItem ov iv v)
   release [v,ov,iv] []):=by intro _;rfl):PG X (.Subscript o i pos) (Hc to ti t):=by
 intro pins s σ H v u Q I r h;rw[j];refine bt (wpAny_holding (zw (f pins s σ H _ I h) λov s1 ⟨x,H1,n,b,d⟩=>?_));refine bt (wpAny_holding (zw (g pins s1 σ H1 _ n d) λiv s2 ⟨y,w,l,a,c⟩=>?_));refine bt (wpAny_standAt (bt (wpAny_holding (zw (e pins s2 σ w x y v ov iv u _ l b a r c) λ_ s3 ⟨p,k,q⟩=>?_))));exact wpAny_release ⟨σ,p,k,q⟩
noncomputable def QX (t:TE)(g:TG):TS:=λD σ H=>t σ H λx H1=>g x σ H1 D.nx
def YM {t:TE}{g:TG}(he:PE X e t)(b:PG X tg g)(a:swapsWithSole [tg] e pos.line X.env=pure false:=by rfl)(hw:swappedStores [tg] e X.env=pure none:=by rfl)
  (c:(assignEach [tg] X.env).map (·.2)=[assign tg X.env]:=by rfl):PS X (.Assign [tg] e pos) (QX t g):=by
 intro pins s σ H D I h;refine wpAny_Assign_stores (zw (he pins s σ H _ I h) λv s1 ⟨x,H1,i,r,Q⟩=>?_) a hw;rw[c];exact zw (b pins s1 σ H1 x v _ i r Q) λ_ s2 q=>q
def NS {t:TE}{pos':Pos}(d:X.N.Nodup)(c:X.N[i]? =some x)(a:Loc X.env.scope x)(he:PE X e t)(b:swapsWith e (some (.Name x pos')) pos.line X.env=pure false:=by rfl)(hf:X.fn x=true∨X.env.scope.names.lookup x=some .local:=by first|exact .inl rfl|exact .inr rfl|assumption):
  PS X (.Assign [.Name x pos'] e pos) (QX t (Zi i)):=by
 intro pins s σ H D I h;refine wpAny_Assign_Name (zw (he pins s σ H _ I h) λv s1 ⟨y,H1,g,r,q⟩=>?_) b;exact Qc g d c a r (λs2 f=>⟨_,H1,f,q⟩) hf
noncomputable def Lz (to ti e:TE)(T:V->V->Hp->VK->Prop)(p:Q7)(t:wJ):TS:=λD σ H=>to σ H λo H1=>ti σ H1 λi d=>T o i d λx c=>e σ c λy b=>p x y b λz a=>t o i z a λh=>D.nx σ h
def X6 (X:Cx)(t:V->V->Hp->VK->Prop):Prop:=
 ∀(pins:a9)(s:Shared)(σ:St)(H:Hp)(o i:V)(v I:Value)(Q:VK),Inv X pins σ H s->RelV o v->RelV i I->t o i H Q->
  wpAny (model X.prog X.w) X.A (getItem v I) (EP X pins σ Q) X.xe s
def NH {o i:Expr}{to ti d:TE}{T:V->V->Hp->VK->Prop}{p:Q7}{t:wJ}{op:Operator}(E:PE X o to)(J:PE X i ti)(K:X6 X T)(he:PE X e d)(C:VC X op p)(B:QZ X t)
  (L:∀a b new,augStore i a b new=(do holding [new,a,b] (setItem a b new);release [new,a,b] [];pure .next):=by intros;rfl):PS X (.AugAssign (.Subscript o i tpos) op e pos) (Lz to ti d T p t):=by
 intro pins s σ H D I h;refine wpAny_AugAssign_SubscriptAny (zw (E pins s σ H _ I h) λa s1 ⟨c,H1,Y,f,A⟩=>?_) L;refine zw (J pins s1 σ H1 _ Y A) λb s2 ⟨x,H2,U,r,z⟩=>?_;refine zw (K pins s2 σ H2 c x a b _ U f r z) λold s3 ⟨k,H3,S,q,y⟩=>?_;refine zw (he pins s3 σ H3 _ S y) λv s4 ⟨j,H4,P,n,w⟩=>?_;refine zw (C pins s4 σ H4 k j old v _ P q n w) λnew s5 ⟨g,H5,N,l,u⟩=>?_;exact zw (B pins s5 σ H5 c x g a b new _ N f r l u) λ_ s6 ⟨Z,M,Q⟩=>⟨σ,Z,M,Q⟩
noncomputable def HL (f:Int->Int->Int):Q7:=λx y H Q=>∃i j,x=.int i/\y=.int j/\Q (.int (f i j)) H
def Lo:VC X .Add (HL λi j=>i+j):=by
 intro pins s σ H x y v u Q I a r h;obtain⟨i,j,E,e,q⟩:=h;subst E;subst e;obtain⟨t,rfl⟩:=a;obtain⟨t',rfl⟩:=r;exact iadd_int ⟨.int _,H,I.tok _,⟨_,rfl⟩,q⟩
end
structure It where
 go:Nat->Hp->Prop
 yld:Nat->Hp->V->Hp->Prop
 stop:Nat->Hp->Prop
def jN (X:Cx)(pins:a9)(H:Hp)(b:Addr):Prop:=
 H b=none/\b≠X.env.locals/\b∉X.fs/\(b∈X.ex∨X.s0.heap.objs.size<=b)/\(∀x c,X.env.cells.lookup x=some c->c≠b)/\∀p∈X.pn++pins,p.1≠b
def Inv.fpOk {X:Cx}{σ:St}{H a:Hp}(I:Inv X pins σ H s)(h:s.heap.objs.size<=b)(hn:a b=none):jN X pins a b:=by
 refine⟨hn,ne_of_gt (ar I.lt h),I.nofs h,.inr (aW I.sz h),λx c e z=>?_,λp d z=>?_⟩
 ·obtain⟨v,q⟩:=I.cell x c e
  exact absurd (ar q.lt (by rw[z];exact h)) (aB _)
 ·exact absurd (ar (aw (I.pin p d).1) (by rw[z];exact h)) (aB _)
structure Turn (P:Program)(w:World)(K:Frag)(tg:Expr)(J:It)(fp:a8)(it:Addr)(tn:Nat->Heap->Prop):Prop where
 mem:it∈fp
 obj:∀i h,tn i h->∀b∈fp,∃o,h.get? b=some o/\∀v,o.data≠.cell v
 keep:∀i h h',tn i h->(∀b∈fp,∀o,h.get? b=some o->h'.get? b=some o)->tn i h'
 item:∀(X:Cx),X.prog=P->X.w=w->X.K=K->X.calm=true->∀(i:Nat)(pins:a9)(s:Shared)(σ:St)(H:Hp)(E:bc),Inv X pins σ H s->(∀b∈fp,jN X pins H b)->tn i s.heap->J.go i H->
  wpAny (model P w) X.A (pyNext (.ref it)) (λr s1=>∃u,r=some u/\
   wpAny (model P w) X.A (letOwnedTupleGo tg (.ref it) u) (λ_ s2=>∃x H',Inv X pins σ H' s2/\RelV x u/\J.yld i H x H'/\tn (i+1) s2.heap/\∀b∈fp,H' b=none) E s1) E s
 done:∀(X:Cx),X.prog=P->X.w=w->X.K=K->X.calm=true->∀(i:Nat)(pins:a9)(s:Shared)(σ:St)(H:Hp)(E:bc),Inv X pins σ H s->(∀b∈fp,jN X pins H b)->tn i s.heap->J.stop i H->
  wpAny (model P w) X.A (pyNext (.ref it)) (λr s1=>r=none/\Inv X pins σ H s1) E s
 self:∀(A:Around)(i:Nat)(s:Shared)(Q:bc)(E:bc),tn i s.heap->Q (.ref it) s->wpAny (model P w) A (pyIter (.ref it)) Q E s
abbrev TI:=St->Hp->(It->Hp->Prop)->Prop
inductive Vx (X:Cx)(pins:a9)(σ:St)(tg:Expr)(R:It->Hp->Prop)(itv:Value)(s2:Shared):Prop
 |mk (it:Addr) (fp:a8) (tn:Nat->Heap->Prop) (J:It) (H':Hp) (e:itv=.ref it) (I:Inv X pins σ H' s2) (T:Turn X.prog X.w X.K tg J fp it tn) (t0:tn 0 s2.heap) (f:(∀b∈fp,jN X pins H' b)) (q:R J H')
def PI (X:Cx)(t iter:Expr)(i:TI):Prop:=
 ∀(pins:a9)(s:Shared)(σ:St)(H:Hp)(R:It->Hp->Prop),Inv X pins σ H s->i σ H R->
  wpAny (model X.prog X.w) X.A (eval iter X.env) (λv s1=>wpAny (model X.prog X.w) X.A (pyIter v) (Vx X pins σ t R) X.xe s1) X.xe s
def QD {A:Around}{it:Addr}{o:Obj}{n:String}{vs:Array Value}{Q:Unit->Shared->Prop}(a:s.heap.get? it=some o)(c:o.cls=.type n)(hd:o.data=.fields vs)
  (hn:["enumerate","zip","dict_itemiterator","dict_reverseitemiterator","odict_iterator","itertools.zip_longest","itertools.pairwise"].contains n=false)(H:Q () s):wpAny M A (letOwnedTupleGo tg (.ref it) u) Q E s:=by
 unfold letOwnedTupleGo;cases tg<;>first
  |exact bw H
  |(cases u<;>first
    |exact bw H
    |(
      refine bt (wpAny_load a ?_);rw[c,hd];show wpAny M A (if (["enumerate","zip","dict_itemiterator","dict_reverseitemiterator","odict_iterator","itertools.zip_longest","itertools.pairwise"].contains n&&vs[0]?==some (rawInt _))=true then _ else _) Q E s;rw[ag (by intro h;rw[hn,Bool.false_and]at h;cases h)]
      exact bw H))
noncomputable def Vq (K:Frag)(a:Addr):It:=
 ⟨λi H=>∃xs x,z8 K H a xs/\xs[i]? =some x,λi H x h=>h=H/\∀xs,z8 K H a xs->xs[i]? =some x,λi H=>∃xs,z8 K H a xs/\xs.length<=i⟩
noncomputable def VI (K:Frag)(a:Addr):It:=
 ⟨λi H=>∃xs x,zP K H a xs/\xs[i]? =some x,λi H x h=>h=H/\∀xs,zP K H a xs->xs[i]? =some x,λi H=>∃xs,zP K H a xs/\xs.length<=i⟩
noncomputable def Ja (lo:Int)(n:Nat):It:=⟨λi _=>i<n,λi H x h=>h=H/\x=.int (lo+i),λi _=>n<=i⟩
def RL {K:Frag}(a it:Addr):Turn P w K tg (Vq K a) [it] it (λi h=>h.IsListIter it a i) where
 mem:=by simp
 obj:=λi h st b f=>by
  have e:b=it:=by simpa using f
  subst e;obtain⟨o,e,c,d⟩:=st;exact⟨o,e,λv z=>by rw[d]at z;cases z⟩
 keep:=λi h h' st k=>st.at λo e=>k it (by simp) o e
 item:=by
  intro X n hw t B i pins s σ H E I hf st l;subst n hw t;obtain⟨xs,x,q,j⟩:=l;obtain⟨g,r,p,J⟩:=I.list q;obtain⟨u,M,D⟩:=r.get j;obtain⟨f0,f1,f2,A,f4,y⟩:=hf it (by simp)
  refine wpAny_pyNext_list_item st p.isList (x:=u) (by simpa using M) λh' S C=>?_
  have Q:Inv X pins σ H { s with heap:=h' }:=I.turned (t':=s.toks) (λb o f e=>(C.2 b f).trans e) f0 f1 A f4 y
  obtain⟨o,e,c,d⟩:=id S;exact⟨u,rfl,QD (s:={ s with heap:=h' }) e c d (by decide) ⟨x,H,Q,D,⟨rfl,λys L=>by rw[I.list_inj L q];exact j⟩,S,λb f=>(hf b f).1⟩⟩
 done:=by
  intro X n hw t B i pins s σ H E I hf st l;subst n hw t;obtain⟨xs,q,j⟩:=l;obtain⟨g,r,p,J⟩:=I.list q;obtain⟨f0,f1,f2,A,f4,y⟩:=hf it (by simp)
  have T:=r.length;exact wpAny_pyNext_list_end (I.ok.hd B) st p.isList (by simp;omega) λh' N=>⟨rfl,I.turned (t':=s.toks) (λb o f e=>N b o f e) f0 f1 A f4 y⟩
 self:=λ_ _ _ _ _ st h=>wpAny_pyIter_listiter st h
def SK {K:Frag}(a it:Addr):Turn P w K tg (VI K a) [it] it (λi h=>h.IsTupleIter it a i) where
 mem:=by simp
 obj:=λi h st b g=>by
  have e:b=it:=by simpa using g
  subst e;obtain⟨o,e,c,d⟩:=st;exact⟨o,e,λv z=>by rw[d]at z;cases z⟩
 keep:=λi h h' st k=>st.at λo e=>k it (by simp) o e
 item:=by
  intro X n hw t B i pins s σ H E I hf st l;subst n hw t;obtain⟨xs,x,q,j⟩:=l;obtain⟨f,r,p,J⟩:=I.tuple q;obtain⟨u,M,D⟩:=r.get j;obtain⟨f0,f1,f2,A,f4,y⟩:=hf it (by simp)
  refine wpAny_pyNext_tuple_item st (show s.heap.IsTuple a f.toArray from p) (x:=u) (by simpa using M) λh' S C=>?_
  have Q:Inv X pins σ H { s with heap:=h' }:=I.turned (t':=s.toks) (λb o g e=>(C.2 b g).trans e) f0 f1 A f4 y
  obtain⟨o,e,c,d⟩:=id S;exact⟨u,rfl,QD (s:={ s with heap:=h' }) e c d (by decide) ⟨x,H,Q,D,⟨rfl,λys L=>by rw[I.tuple_inj L q];exact j⟩,S,λb g=>(hf b g).1⟩⟩
 done:=by
  intro X n hw t B i pins s σ H E I hf st l;subst n hw t;obtain⟨xs,q,j⟩:=l;obtain⟨f,r,p,J⟩:=I.tuple q;obtain⟨f0,f1,f2,A,f4,y⟩:=hf it (by simp)
  have T:=r.length;exact wpAny_pyNext_tuple_end (I.ok.hd B) st (show s.heap.IsTuple a f.toArray from p) (by simp;omega) λh' N=>⟨rfl,I.turned (t':=s.toks) (λb o g e=>N b o g e) f0 f1 A f4 y⟩
 self:=λ_ _ _ _ _ st h=>wpAny_pyIter_tupleiter st h
def SO {K:Frag}(it:Addr)(lo:Int)(n:Nat):Turn P w K tg (Ja lo n) [it] it (λi h=>IsRangeIter h it (lo+(i:Nat) * 1) ((n:Int)-(i:Nat)) 1) where
 mem:=by simp
 obj:=λi h st b a=>by
  have e:b=it:=by simpa using a
  subst e;exact⟨_,st,λv z=>by
   have Z:Data.fields _=Data.cell v:=z;cases Z⟩
 keep:=λi h h' st k=>k it (by simp) _ st
 item:=by
  intro X d hw f c i pins s σ H E I hf st g;subst d hw f;obtain⟨f0,f1,f2,l,f4,j⟩:=hf it (by simp)
  have W:=Walks.range (prog:=X.prog) (w:=X.w) (I.ok.hd c) it lo 1 n;refine W.item i s _ _ g st λv h' T p S kk=>?_;obtain⟨t,rfl⟩:=p;have r:Inv X pins σ H { s with heap:=h',toks:=T }:=I.turned (λb o a e=>kk b o (by simpa using a) e) f0 f1 l f4 j
  refine⟨_,rfl,QD (s:={ s with heap:=h',toks:=T }) (n := "range_iterator") S rfl rfl (by decide) ⟨.int (lo+i),H,r,⟨t,?_⟩,⟨rfl,rfl⟩,S,λb a=>(hf b a).1⟩⟩
  rw[Int.mul_one]
 done:=by
  intro X d hw f c i pins s σ H E I hf st g;subst d hw f;obtain⟨f0,f1,f2,l,f4,j⟩:=hf it (by simp)
  exact wpAny_pyNext_range_end (I.ok.hd c) st (by have:n<=i:=g;omega) λh' q=>⟨rfl,I.turned (t':=s.toks) (λb o a e=>q b o a e) f0 f1 l f4 j⟩
 self:=λ_ _ _ _ _ st h=>wpAny_pyIter_rangeiter st h
section
variable {X:Cx}
def PD {σ:St}{H:Hp}{R:It->Hp->Prop}{lo h:Int}{t u v:Tok}{T:Nat}(I:Inv X pins σ H s)(g:-(2 ^ 62)<=lo)(f:lo<2 ^ 62)(d:-(2 ^ 62)<=h)(c:h<2 ^ 62)
  (q:R (Ja lo (h-lo).toNat) H):wpAny (model X.prog X.w) X.A (pyIter (.ref s.heap.objs.size)) (Vx X pins σ tg R) E { s with heap:=s.heap.push { cls:=.type "range",data:=.fields #[.int lo t,.int h u,.int 1 v] },toks:=T }:=by
 refine wpAny_pyIter_range (IsRange.new ..) (small_one g f d c) ?_;have i:Inv X pins σ H { s with heap:=s.heap.push { cls:=.type "range",data:=.fields #[.int lo t,.int h u,.int 1 v] },toks:=T }:=I.kept λb o e=>aa _ e
 refine⟨(s.heap.push { cls:=.type "range",data:=.fields #[.int lo t,.int h u,.int 1 v] }).objs.size,[(s.heap.push { cls:=.type "range",data:=.fields #[.int lo t,.int h u,.int 1 v] }).objs.size],_,_,H,rfl,
  i.kept (t':=T) λb o e=>aa _ e,SO _ lo (h-lo).toNat,?_,λb a=>?_,q⟩
 ·have k:lo+((0:Nat):Int) * 1=lo:=by simp
  have j:(((h-lo).toNat:Nat):Int)-((0:Nat):Int)=Builtin.Range.rangeSize lo h 1:=by rw[rangeSize_one];split<;>omega
  show IsRangeIter _ _ (lo+((0:Nat):Int) * 1) ((((h-lo).toNat:Nat):Int)-((0:Nat):Int)) 1;rw[k,j];exact ah _ rfl
 ·have e:b=(s.heap.push { cls:=.type "range",data:=.fields #[.int lo t,.int h u,.int 1 v] }).objs.size:=by simpa using a
  subst e;exact i.fpOk (ak _) (i.hok.fresh (ak _))
def LC (t:TA):TI:=λσ H R=>t σ H λvs H1=>∃j:Int,vs=[.int j]/\-(2 ^ 62)<=j/\j<2 ^ 62/\R (Ja 0 j.toNat) H1
def RT {a:Expr}{T:TA}(g:Gl X "range")(hm:X.mg "range"=none)(i:PA X [a] T)(f:starEach [a] X.env=[(false,eval a X.env)]:=by rfl):PI X tg (.Call (.Name "range" p) [a] [] pos) (LC T):=by
 intro pins s σ H R I h;refine Call_ (wy I g hm boot_range (PyProof.Rows.callWith_type1 (zw (i pos pins s σ H _ I h) λus s1 ⟨vs,H1,k,c,Q⟩=>?_) f rfl));obtain⟨j,e,Q,d,q⟩:=Q;subst e;cases c with
 |cons r b=>
  cases b;obtain⟨t,rfl⟩:=r;exact call_range_1 (PD k (by omega) (by omega) Q d (by simpa using q))
def Hz (w:TI)(g:TG)(t:TS):TS:=λD σ H=>w σ H λJ H1=>∃W:Nat->Nat->St->Hp->Prop,(∃m,W 0 m σ H1)/\∀i m σ H,W i m σ H->
 (J.stop i H/\D.nx σ H)∨(J.go i H/\∃N:St->Hp->Prop,(∀a h,N a h->∃M,M<m/\W (i+1) M a h)/\∀x h,J.yld i H x h->g x σ h λb c=>t { D with nx:=N,ct:=N,bk:=D.nx } b c)
noncomputable def Ze (fp:a8)(h:Heap):a9:=fp.filterMap λb=>(h.get? b).map λo=>(b,o)
def Z2 {o:Obj}(H:b∈fp)(e:h.get? b=some o):(b,o)∈Ze fp h:=List.mem_filterMap.mpr ⟨b,H,by rw[e];rfl⟩
def Rg {p:Addr×Obj}(H:p∈Ze fp h):p.1∈fp/\h.get? p.1=some p.2:=by
 obtain⟨b,a,e⟩:=List.mem_filterMap.mp H;cases q:h.get? b with
 |none=>rw[q]at e;cases e|some o=>
  rw[q]at e;have E:(b,o)=p:=aj e;subst E;exact⟨a,q⟩
def Inv.pinned {σ:St}{H:Hp}(I:Inv X pins σ H s)(hf:∀b∈fp,jN X pins H b)(c:∀b∈fp,∃o,s.heap.get? b=some o/\∀v,o.data≠.cell v):Inv X (pins++Ze fp s.heap) σ H s:=
 I.pins_of λp a=>(List.mem_append.mp a).elim (λz=>I.pin p (aC _ z)) λz=>by
  obtain⟨h,e⟩:=Rg z;obtain⟨f0,f1,f2,_⟩:=hf p.1 h;obtain⟨o,E,d⟩:=c p.1 h;rw[e]at E;cases E;exact⟨e,f0,f1,f2,d⟩
def Inv.unpinned {pl:a9}{σ:St}{H:Hp}(I:Inv X (pins++pl) σ H s):Inv X pins σ H s:=I.pins_of λp h=>I.pin p (aC _ (List.mem_append_left _ h))
def Ml {iter:Expr}{body:br}{Y:TI}{g:TG}{tb:TS}(B:PassesOwn (model X.prog X.w) X.A X.env X.xe)(hc:X.calm=true)(hi:PI X tg iter Y)(hg:PG X tg g)(k:jb X body tb)
  (hs:∀x,foldedSetIterable iter X.env x=pure x:=by intro _;rfl):PS X (.For tg iter body [] pos) (Hz Y g tb):=by
 intro pins s σ H D I h;refine wpAny_For (zw (hi pins s σ H _ I h) λv s1 h1=>zw h1 λitv s2 h2=>?_) hs;obtain⟨it,fp,Z,J,H2,e,I2,T,L,f2,W,⟨m0,w0⟩,turn⟩:=h2;subst e;have S:∀{H':Hp},(∀b∈fp,H' b=none)->∀b∈fp,jN X pins H' b:=λhn b k=>⟨hn b k,(f2 b k).2⟩;refine codeAny_forLoop_any (λn s'=>∃i j H',Inv X pins j H' s'/\Z i s'.heap/\(∀b∈fp,H' b=none)/\W i n j H') ?_ m0 ⟨0,σ,H2,I2,L,λb k=>(f2 b k).1,w0⟩
 rintro n s3 ⟨i,c,E,I3,y,C,w3⟩
 rcases turn i n c E w3 with ⟨stop,qn⟩|⟨go,N,hN,step⟩
 ·refine wpAny_passesOwn B (zw (T.done X rfl rfl rfl hc i pins s3 c E X.xe I3 (S C) y stop) λr s4 ⟨P,I4⟩=>?_)
  subst P;exact wpAny_execs_nil ⟨c,E,I4,qn⟩
 ·refine wpAny_passesOwn B (zw (T.item X rfl rfl rfl hc i pins s3 c E X.xe I3 (S C) y go) λr s4 ⟨u,P,h4⟩=>?_)
  subst P;refine wpAny_passesOwn B (zw h4 λ_ s5 ⟨x,H5,I5,r5,y5,t,Q⟩=>?_);have U:=I5.pinned (S Q) (T.obj _ _ t);refine wpAny_passesOwn B (zw (hg _ s5 c H5 x u _ U r5 (step x H5 y5)) λ_ s6 ⟨K,H6,I6,q6⟩=>?_);refine wpAny_passesOwn B (zw (k _ s6 K H6 _ I6 q6) λf M q=>?_);have again:∀{a:St}{p:Hp},Inv X (pins++Ze fp s5.heap) a p M->N a p->∃m,m<n/\∃i j H',Inv X pins j H' M/\Z i M.heap/\(∀b∈fp,H' b=none)/\W i m j H':=λ {a p} l z=>by
   obtain⟨m',hm,w7⟩:=hN a p z;refine⟨m',hm,i+1,a,p,l.unpinned,T.keep _ _ _ t λb k o e=>(l.pin (b,o) (aC _ (aC _ (Z2 k e)))).1,λb k=>?_,w7⟩;obtain⟨o,e,d⟩:=T.obj _ _ t b k;exact(l.pin (b,o) (aC _ (aC _ (Z2 k e)))).2.1
  cases f with
  |next=>obtain⟨a,p,l,z⟩:=q;exact again l z|cont=>obtain⟨a,p,l,z⟩:=q;exact again l z|brk=>obtain⟨a,p,l,q⟩:=q;exact⟨a,p,l.unpinned,q⟩|ret v=>obtain⟨x7,a,p,l,r7,q⟩:=q;exact⟨x7,a,p,l.unpinned,r7,q⟩
end
abbrev R2:=V->V->Hp->VK->Prop
def z7 (X:Cx)(f:Value->Value->Sem Value)(r:R2):Prop:=
 ∀(pins:a9)(s:Shared)(σ:St)(H:Hp)(x y:V)(v u:Value)(Q:VK),Inv X pins σ H s->RelV x v->RelV y u->r x y H Q->
  wpAny (model X.prog X.w) X.A (f v u) (EP X pins σ Q) X.xe s
def Ji (X:Cx)(f:Value->Sem Value)(r:V->Hp->VK->Prop):Prop:=
 ∀(pins:a9)(s:Shared)(σ:St)(H:Hp)(x:V)(v:Value)(Q:VK),Inv X pins σ H s->RelV x v->r x H Q->
  wpAny (model X.prog X.w) X.A (f v) (EP X pins σ Q) X.xe s
def jI (X:Cx)(f:Value)(r:List V->Hp->VK->Prop):Prop:=
 ∀(pins:a9)(s:Shared)(σ:St)(H:Hp)(xs:List V)(us:a7)(Q:VK),Inv X pins σ H s->Vals xs us->r xs H Q->
  wpAny (model X.prog X.w) X.A (call f us) (EP X pins σ Q) X.xe s
noncomputable def ZO (r:R2)(T t:TE):TE:=λσ H Q=>T σ H λx H1=>t σ H1 λy h=>r x y h Q
noncomputable def VH (r:V->Hp->VK->Prop)(t:TE):TE:=λσ H Q=>t σ H λx H1=>r x H1 Q
noncomputable def rI (C:Int->Int->Prop)(g:Int->Int->V):R2:=λx y H Q=>∃i j,x=.int i/\y=.int j/\C i j/\Q (g i j) H
noncomputable def kY (g:Int->Int->V):R2:=λx y H Q=>∃i j,x=.int i/\y=.int j/\Q (g i j) H
noncomputable def rU (g:Int->V):V->Hp->VK->Prop:=λx H Q=>∃i,x=.int i/\Q (g i) H
section
variable {X:Cx}{a b:Expr}{ta tb:TE}
def QS (j:PE X a ta)(i:PE X b tb){σ:St}{H:Hp}{R:V->V->Hp->Prop}(I:Inv X pins σ H s)
  (h:ta σ H λx H1=>tb σ H1 λy c=>R x y c){f:Value->Value->Sem Value}
  (hf:∀v u s2 x y c,Inv X pins σ c s2->RelV x v->RelV y u->R x y c->wpAny (model X.prog X.w) X.A (f v u) Q X.xe s2):
  wpAny (model X.prog X.w) X.A (eval a X.env) (λv d=>wpAny (model X.prog X.w) X.A (eval b X.env) (λu S=>wpAny (model X.prog X.w) X.A (f v u) Q X.xe S) X.xe d) X.xe s:=by
 refine zw (j pins s σ H _ I h) λv s1 ⟨x,H1,l,e,g⟩=>?_;refine zw (i pins s1 σ H1 _ l g) λu s2 ⟨y,c,k,r,q⟩=>?_;exact hf v u s2 x y c k e r q
def LH {op:Operator}{r:R2}(o:z7 X (binaryOp op) r)(f:PE X a ta)(e:PE X b tb):PE X (.BinOp a op b pos) (ZO r ta tb):=by
 intro pins s σ H Q I h;exact wpAny_BinOp (QS f e I h λv u s2 x y g i d c q=>o pins s2 σ g x y v u Q i d c q)
def IM {op:UnaryOp}{r:V->Hp->VK->Prop}(o:Ji X (unaryOp op) r)(c:PE X a ta):PE X (.UnaryOp op a pos) (VH r ta):=by
 intro pins s σ H Q I h;exact UnaryOp_ (zw (c pins s σ H _ I h) λv s1 ⟨x,H1,i,b,q⟩=>o pins s1 σ H1 x v Q i b q)
def VF {f:Value->Value->Sem Value}{C:Int->Int->Prop}{g:Int->Int->Int}
  (rule:∀(i j:Int)(t u:Tok)(s:Shared)(Q:bc)(E:bc),C i j->Q (.int (g i j) s.toks) { s with toks:=s.toks+1 }->wpAny (model X.prog X.w) X.A (f (.int i t) (.int j u)) Q E s):
  z7 X f (rI C λi j=>.int (g i j)):=by
 intro pins s σ H x y v u Q I a r h;obtain⟨i,j,rfl,rfl,c,q⟩:=h;obtain⟨t,rfl⟩:=a;obtain⟨t',rfl⟩:=r;exact rule i j t t' s _ _ c ⟨.int (g i j),H,I.tok _,⟨_,rfl⟩,q⟩
def Hj {f:Value->Value->Sem Value}{g:Int->Int->Int}
  (rule:∀(i j:Int)(t u:Tok)(s:Shared)(Q:bc)(E:bc),Q (.int (g i j) s.toks) { s with toks:=s.toks+1 }->wpAny (model X.prog X.w) X.A (f (.int i t) (.int j u)) Q E s):
  z7 X f (kY λi j=>.int (g i j)):=by
 intro pins s σ H x y v u Q I a r h;obtain⟨i,j,rfl,rfl,q⟩:=h;obtain⟨t,rfl⟩:=a;obtain⟨t',rfl⟩:=r;exact rule i j t t' s _ _ ⟨.int (g i j),H,I.tok _,⟨_,rfl⟩,q⟩
def Kb {f:Value->Value->Sem Value}{g:Int->Int->Bool}
  (rule:∀(i j:Int)(t u:Tok)(s:Shared)(Q:bc)(E:bc),Q (.bool (g i j)) s->wpAny (model X.prog X.w) X.A (f (.int i t) (.int j u)) Q E s):
  z7 X f (kY λi j=>.bl (g i j)):=by
 intro pins s σ H x y v u Q I a r h;obtain⟨i,j,rfl,rfl,q⟩:=h;obtain⟨t,rfl⟩:=a;obtain⟨t',rfl⟩:=r;exact rule i j t t' s _ _ ⟨.bl (g i j),H,I,rfl,q⟩
def Zx (i j:Int):Prop:=(-(2 ^ 64)<i/\i<2 ^ 64)∨(-(2 ^ 64)<j/\j<2 ^ 64)
def Zx.ok {i j:Int}(h:Zx i j):IntMulOk i j:=by
 rcases h with ⟨a,H⟩|⟨a,H⟩
 ·exact .of_left (intBits_le_64 a H)
 ·exact .of_right (intBits_le_64 a H)
def M1:z7 X (binaryOp .Add) (kY λi j=>.int (i+j)):=Hj λ_ _ _ _ _ _ _ q=>add_int q
def NO:z7 X (binaryOp .Mult) (rI Zx λi j=>.int (i * j)):=VF λ_ _ _ _ _ _ _ h q=>mul_int q h.ok
def Mg:z7 X (binaryOp .Mod) (rI (λ_ j=>0<j) λi j=>.int (i%j)):=VF λi j _ _ _ _ _ h q=>by
 have H:(0:Int)<j:=h;exact mod_int' (by omega) (by rw[Int.fmod_eq_emod_of_nonneg i (by omega)];exact q)
def Fb {f:Value->Sem Value}{g:Int->Int}
  (rule:∀(i:Int)(t:Tok)(s:Shared)(Q:bc)(E:bc),Q (.int (g i) s.toks) { s with toks:=s.toks+1 }->wpAny (model X.prog X.w) X.A (f (.int i t)) Q E s):
  Ji X f (rU λi=>.int (g i)):=by
 intro pins s σ H x v Q I r h;obtain⟨i,rfl,q⟩:=h;obtain⟨t,rfl⟩:=r;exact rule i t s _ _ ⟨.int (g i),H,I.tok _,⟨_,rfl⟩,q⟩
def My:Ji X (unaryOp .USub) (rU λi=>.int (-i)):=Fb λ_ _ _ _ _ q=>neg_int q
variable {c:Expr}{tc:TE}
def Ll {σ:St}{H:Hp}{Q:VK}{k K:Bool}(I:Inv X pins σ H s)(q:Q (.bl k) H)(e:k=K):EP X pins σ Q (.bool K) s:=by
 subst e;exact⟨.bl k,H,I,rfl,q⟩
def IT:z7 X (compareOp .Lt) (kY λi j=>.bl (decide (i<j))):=Kb λ_ _ _ _ _ _ _ q=>lt_int q
def L7:z7 X (compareOp .LtE) (kY λi j=>.bl (decide (i<=j))):=Kb λ_ _ _ _ _ _ _ q=>le_int q
def LO:z7 X (compareOp .Gt) (kY λi j=>.bl (decide (j<i))):=Kb λ_ _ _ _ _ _ _ q=>gt_int q
def N1:z7 X (compareOp .Is) (λx y H Q=>y=.non/\Q (.bl (decide (x=.non))) H):=by
 intro pins s σ H x y v u Q I r a h;obtain⟨rfl,q⟩:=h;cases a;refine is_none_gen (Ll I q ?_);cases x<;>first
  |(cases r;rfl)
  |(obtain⟨t,rfl⟩:=r;rfl)
def z7.or {f:Value->Value->Sem Value}{r c:R2}(h:z7 X f r)(h':z7 X f c):z7 X f (λx y H Q=>r x y H Q∨c x y H Q):=by
 intro pins s σ H x y v u Q I b a q;rcases q with q|q
 ·exact h pins s σ H x y v u Q I b a q
 ·exact h' pins s σ H x y v u Q I b a q
def Nl {r:R2}(o:z7 X (compareOp op) r)(f:PE X a ta)(e:PE X b tb)(hm:behindInMarks op b=false):PE X (.Compare a [op] [b] pos) (ZO r ta tb):=by
 intro pins s σ H Q I h;exact wpAny_Compare1 (QS f e I h λv u s2 x y g i d c q=>o pins s2 σ g x y v u Q i d c q) hm
noncomputable def XG (t:TE):TT:=λσ H Q=>t σ H λx h=>∃k,x=.bl k/\Q k h
def Nh {r:R2}(o:z7 X (compareOp op) r)(n:PE X a ta)(l:PE X b tb)(hm:behindInMarks op b=false):PT X (.Compare a [op] [b] pos) (XG (ZO r ta tb)):=by
 intro pins s σ H Q I h;refine wpAny_isTrue_Compare1 (zw (n pins s σ H _ I h) λv s1 ⟨x,H1,w,g,j⟩=>zw (l pins s1 σ H1 _ w j) λu s2 ⟨y,B,t,f,i⟩=>
  zw (o pins s2 σ B x y v u _ t g f i) λc s3 ⟨z,A,p,d,k,e,q⟩=>?_) hm
 subst e;cases d;exact wpAny_truthy_bool ⟨A,p,q⟩
noncomputable def YK (r b:R2)(a T t:TE):TE:=λσ H Q=>a σ H λx H1=>T σ H1 λy d=>r x y d λz h=>∃k,z=.bl k/\
 (if k=true then t σ h λw c=>b y w c Q else Q (.bl false) h)
def PK {o:CmpOp}{r i:R2}(D:z7 X (compareOp op) r)(f:z7 X (compareOp o) i)(K:PE X a ta)(J:PE X b tb)(E:PE X c tc)
  (hm:lastMarks [op,o] [b,c]=false:=by with_unfolding_all rfl):PE X (.Compare a [op,o] [b,c] pos) (YK r i ta tb tc):=by
 intro pins s σ H Q I h;refine Compare_chain (zw (K pins s σ H _ I h) λv s1 ⟨x,H1,N,t,C⟩=>chain_link (zw (J pins s1 σ H1 _ N C) λu s2 ⟨y,S,M,g,B⟩=>
  zw (D pins s2 σ S x y v u _ M t g B) λd s3 ⟨z,l,j,p,k,e,q⟩=>?_)) hm
 subst e;cases p;refine wpAny_truthy_bool ?_;cases k with
 |false=>exact ite_ff ⟨.bl false,l,j,rfl,q⟩|true=>exact ite_tt (chain_last (zw (E pins s3 σ l _ j q) λw s4 ⟨Z,P,L,n,A⟩=>f pins s4 σ P y Z u w Q L g n A))
def Ob {o:CmpOp}{r i:R2}(K:z7 X (compareOp op) r)(f:z7 X (compareOp o) i)(N:PE X a ta)(M:PE X b tb)(L:PE X c tc)
  (hm:lastMarks [op,o] [b,c]=false:=by with_unfolding_all rfl):PT X (.Compare a [op,o] [b,c] pos) (XG (YK r i ta tb tc)):=by
 intro pins s σ H Q I h;refine isTrue_chain (zw (N pins s σ H _ I h) λv s1 ⟨x,H1,I1,A,E⟩=>test_link (zw (M pins s1 σ H1 _ I1 E) λu s2 ⟨y,H2,Y,g,D⟩=>
  zw (K pins s2 σ H2 x y v u _ Y A g D) λd s3 ⟨z,l,j,t,k,e,q⟩=>?_)) hm
 subst e;cases t;refine wpAny_truthy_bool ?_;cases k with
 |false=>
  obtain⟨k',S,J⟩:=q;cases S;exact ite_ff ⟨l,j,J⟩
 |true=>
  refine ite_tt (test_last (zw (L pins s3 σ l _ j q) λw s4 ⟨Z,H4,U,p,C⟩=>zw (f pins s4 σ H4 y Z u w _ U g p C) λd' s5 ⟨z2,H5,T,n,k2,P,B⟩=>?_));subst P;cases n;exact wpAny_truthy_bool ⟨H5,T,B⟩
def gv:(sizeLine:Nat)<2 ^ 63:=by rw[sizeLine_eq];decide
def vals1 {x:V}(r:Vals [x] us):∃u,us=[u]/\RelV x u:=by
 cases r with
 |cons b a=>cases a;exact⟨_,rfl,b⟩
def vals2 {x y:V}(r:Vals [x,y] us):∃u w,us=[u,w]/\RelV x u/\RelV y w:=by
 cases r with
 |cons d c=>
  cases c with
  |cons b a=>cases a;exact⟨_,_,rfl,d,b⟩
end
structure wK (h:Heap)(x dx C:Addr)(mA:bh):Prop where
 obj:h.get? x=some (instObj C dx)
 ns:h.Ns1 dx mA
 ne:dx≠x
def RP {D:Addr}{M:bh}(n:h.Ns1 D M):∃d,h.get? D=some d/\∀name,lookIn name d=some (M name):=by
 obtain⟨o,E,p,c,hd,k,_,hm⟩:=n;refine⟨o,c,λname=>?_⟩;have e:=hm name;unfold nsFind findBy at e;rw[<- Array.find?_toList]at e;unfold lookIn;rw[hd];dsimp only
 split
 ·rename_i y q
  rw[q]at e;exact congrArg some e
 ·rename_i q
  rw[q]at e;have a:E.toList.any (·.refKey)=false:=by
   rw[List.any_eq_false];intro y b;obtain⟨z,t,H⟩:=k y (Array.mem_toList_iff.mp b);simp[DictEntry.refKey,H]
  have A:¬E.toList.any (·.refKey)=true:=by rw[a];exact ao
  rw[ag A];exact congrArg some e
def wK.look {x d:Addr}{M:bh}(I:wK h x d C M):∃o,PySem.W.InstAt h x (instObj C d) C (some o)/\∀name,lookIn name o=some (M name):=
 let ⟨o,H,l⟩:=RP I.ns
 ⟨o,⟨I.obj,rfl,rfl,H⟩,l⟩
section
variable {prog:Program}{A:Around}{K:Frag}{x dx:Addr}{mA:bh}{name:Str}{v:Value}
def get_map {expr:Bool}(X:K.In s.heap)(I:wK s.heap x dx C mA)(g:plainGet K C name=true)(b:hasDictIn K C=true)
  (c:PySem.W.findIn K (.ref C) name=some none)(a:mA name=some v)(H:handedIn v=true)(h:Q v { s with toks:=s.toks+1 }):
  wpAny (model prog w) A (getAttr (.ref x) name expr) Q E s:=by
 obtain⟨o,J,l⟩:=I.look;exact PySem.W.get_value X J (plainGet_of g).1 (PySem.W.findObj_own b c rfl (by rw[l,a])) H h
def Pr {Q:Value×List Value->Shared->Prop}(X:K.In s.heap)(I:wK s.heap x dx C mA)(H:plainGet K C name=true)
  (hf:PySem.W.findIn K (.ref C) name=some (some (.ref f)))(t:isFn K (.ref f)=true)(v:mA name=none)(h:Q (.ref f,[.ref x]) s):
  wpAny (model prog w) A (getMethod (.ref x) name pl) Q E s:=by
 obtain⟨o,J,l⟩:=I.look;exact PySem.W.method_fn X J (plainGet_of H).1 (plainGet_of H).2 hf (au.mp t) (by show(lookIn name o).map (·.isSome)=some false;rw[l,v];rfl) h
def OM {ns:bb}{Q:Unit->Shared->Prop}(X:K.In s.heap)(I:wK s.heap x dx C mA)
  (i:PySem.W.findIn K (.ref C) "__setattr__"=some (some (.builtin "object.__setattr__")))(p:plainOver K C=true)(t:takerIn K C name=some none)(j:hasDictIn K C=true)
  (hw:PySem.Within mA ns)(z:ns.length<=sizeLine)
  (h:∀h',wK h' x dx C (λy=>if y=name then some v else mA y)->Heap.SameBut dx s.heap h'->Q () { s with heap:=h',toks:=s.toks+2 }):
  wpAny (model prog w) A (setAttr (.ref x) name v) Q E s:=by
 obtain⟨o,J,u⟩:=I.look;refine PySem.W.set_plain X J i (PySem.W.osa_open (s:={ s with toks:=s.toks+1 }) (r:=none) X J p t λb=>?_)
 obtain⟨cd,k,e⟩:=PySem.W.any_some j;have g:s.heap.get? x=some ⟨.ref C,some dx,.plain,#[]⟩:=I.obj;refine bt (bw (bt (bt (wpAny_loadPart g (bt (PySem.W.Looks.here (s:={ s with toks:=s.toks+1 }) (PySem.W.looks_clsIn X k) ?_))))))
 rw[e];refine bw (a:=some dx) (bt (bw (bt ?_)));refine wpAny_nsSet1 (s:={ s with toks:=s.toks+1 }) I.ns λh' c H=>?_
 obtain⟨q,l,n,D,d,f⟩:=c.count (PySem.Within.cons name v hw);refine bt (wpAny_lookBehind D (by rw[d];exact pastItsLine_dict (aW f (by rw[aU];omega))) ?_)
 exact bw (h _ ⟨(H.2 _ (Ne.symm I.ne)).trans I.obj,c,I.ne⟩ H)
def PJ {R:Result->Shared->Prop}{vs:a7}(X:K.In s.heap)(hm:makesIn K C=true)
  (H:PySem.W.findIn K (.ref C) "__init__"=some (some (.ref f)))(hf:PySem.W.typeIn K (.ref f)=some (.type "function"))
  (h:codeAny (model prog w) (A.under (.builtin "type.__call__" ⟨.ref C::vs,kw⟩)) (.call (.ref f) ⟨.ref (s.heap.objs.size+1)::vs,kw⟩) (PySem.W.InitBack (s.heap.objs.size+1) R)
   { s with heap:=(s.heap.push emptyDict).push (instObj C s.heap.objs.size) }):
  codeAny (model prog w) A (.call (.ref C) ⟨vs,kw⟩) R s:=by
 obtain⟨a,g,d,t,os⟩:=s;exact PySem.W.make_core (PySem.W.makes_of X hm) (PySem.W.looks_findIn X H) (λself=>PySem.W.bind_fn X self hf) (.inl rfl) h
end
noncomputable def jC (f:Str)(v:V):List (Str×V)->List (Str×V)
 |[]=>[(f,v)]|(g,x)::r=>if g=f then(g,v)::r else(g,x)::jC f v r
theorem Wv (f g:Str)(v:V):∀fs:List (Str×V),(jC f v fs).lookup g=if g=f then some v else fs.lookup g
 |[]=>by
  show List.lookup g [(f,v)]=_
  by_cases h:g=f
  ·have H:(g==f)=true:=au.mpr h
   simp only[List.lookup,H,af h]
  ·have H:(g==f)=false:=beq_eq_false_iff_ne.mpr h
   simp only[List.lookup,H,ag h]
 |(k,x)::r=>by
  have i:=Wv f g v r;rw[show jC f v ((k,x)::r)=(if k=f then(k,v)::r else(k,x)::jC f v r) from rfl]
  by_cases a:k=f
  ·rw[af a]
   by_cases h:g=k
   ·have H:(g==k)=true:=au.mpr h
    simp only[List.lookup,H,af (h.trans a)]
   ·have H:(g==k)=false:=beq_eq_false_iff_ne.mpr h
    simp only[List.lookup,H,ag (λe:g=f=>h (e.trans a.symm))]
  ·rw[ag a]
   by_cases h:g=k
   ·have H:(g==k)=true:=au.mpr h
    simp only[List.lookup,H,ag (λe:g=f=>a (h.symm.trans e))]
   ·have H:(g==k)=false:=beq_eq_false_iff_ne.mpr h
    simp only[List.lookup,H];exact i
theorem JT (f:Str)(v:V):∀fs:List (Str×V),f∈(jC f v fs).map (·.1)/\∀g,g∈fs.map (·.1)->g∈(jC f v fs).map (·.1)
 |[]=>⟨by simp[jC],λg h=>by simp at h⟩|(k,x)::r=>by
  obtain⟨I,i⟩:=JT f v r;rw[show jC f v ((k,x)::r)=(if k=f then(k,v)::r else(k,x)::jC f v r) from rfl]
  by_cases H:k=f
  ·rw[af H]
   subst H;exact⟨by simp,λg h=>by simpa using h⟩
  ·rw[ag H]
   refine⟨?_,λg h=>?_⟩
   ·rw[aP]
    exact av _ I
   ·rw[aP]at h ⊢
    rcases bz.mp h with e|e
    ·exact bz.mpr (.inl e)
    ·exact av _ (i g e)
theorem WA (f:Str)(v:V):∀fs:List (Str×V),(jC f v fs).length<=fs.length+1
 |[]=>by simp[jC]|(k,x)::r=>by
  have i:=WA f v r;rw[show jC f v ((k,x)::r)=(if k=f then(k,v)::r else(k,x)::jC f v r) from rfl]
  by_cases h:k=f
  ·rw[af h,aU,aU];omega
  ·rw[ag h,aU,aU];omega
def yA.some_of {v:V}{o:Option Value}(r:yA (some v) o):∃u,o=some u/\RelV v u:=by
 cases o with
 |none=>exact(show False from r).elim|some u=>exact⟨u,rfl,r⟩
def yA.none_of {o:Option Value}(r:yA none o):o=none:=by
 cases o with
 |none=>rfl|some u=>exact(show False from r).elim
def Rv {v:V}(r:RelV v u):handedIn u=true:=by
 cases v with
 |non=>cases (show u=Value.none from r);rfl|bl b=>cases (show u=Value.bool b from r);rfl|int i=>obtain⟨t,e⟩:=(show ∃t,u=Value.int i t from r);cases e;rfl|str x=>obtain⟨t,e⟩:=(show ∃t,u=Value.str x t from r);cases e;rfl|byt b=>obtain⟨t,e⟩:=(show ∃t,u=Value.bytes b t from r);cases e;rfl|flt b=>obtain⟨t,e⟩:=(show ∃t,u=Value.float b t from r);cases e;rfl|ref a=>cases (show u=Value.ref a from r);rfl|ty n=>cases (show u=Value.type n from r);rfl
section
variable {H:Hp}{dx:Addr}{fs:List (Str×V)}
def Qf (hok:z9 P w H h)(e:H a=some (.ins C dx fs)):∃M,wK h a dx C M/\(∀f,yA (fs.lookup f) (M f))/\PySem.Within M (fs.map (·.1))/\fs.length<=1000/\H dx=some (.own a):=by
 obtain⟨d,z,ne,ob,M,n,r,q⟩:=(show qd P w H h a (.ins C dx fs) from hok a _ e)
 exact⟨M,⟨ob,n,ne⟩,r,q,z,d⟩
end
structure qG (K:Frag)(C:Addr):Prop where
 pg:plainGet K C Str.empty=true
 hd:hasDictIn K C=true
 po:plainOver K C=true
 sa:PySem.W.findIn K (.ref C) "__setattr__"=some (some (.builtin "object.__setattr__"))
def qG.get {K:Frag}(c:qG K C)(f:Str):plainGet K C f=true:=c.pg
def yR (K:Frag)(C:Addr)(f:Str):Prop:=PySem.W.findIn K (.ref C) f=some none
def yR.taker {K:Frag}{f:Str}(n:yR K C f):takerIn K C f=some none:=by
 unfold takerIn;rw[show PySem.W.findIn K (.ref C) f=some none from n]
 rfl
structure Meth (K:Frag)(C:Addr)(m:Str)(f:Addr):Prop where
 at_:PySem.W.findIn K (.ref C) m=some (some (.ref f))
 fn:isFn K (.ref f)=true
 kp:keepIn K (.ref f)=true
section
variable {X:Cx}{σ:St}{H:Hp}{dx:Addr}{fs:List (Str×V)}{f:Str}{v:V}{A:Around}
def S0 {b:Bool}(I:Inv X pins σ H s)(e:H a=some (.ins C dx fs))(c:qG X.K C)(n:yR X.K C f)(l:fs.lookup f=some v)
  (h:∀u s',Inv X pins σ H s'->RelV v u->Q u s'):wpAny (model X.prog X.w) A (getAttr (.ref a) f b) Q E s:=by
 obtain⟨M,O,r,_,_,_⟩:=Qf I.hok e;obtain⟨u,g,d⟩:=yA.some_of (v:=v) (o:=M f) (by rw[<- l];exact r f)
 exact get_map I.kIn O (c.get f) c.hd n g (Rv d) (h u _ (I.tok _) d)
def Rc {m:Str}{g:Addr}{Q:Value×List Value->Shared->Prop}(I:Inv X pins σ H s)(e:H a=some (.ins C dx fs))(c:qG X.K C)(k:Meth X.K C m g)(l:fs.lookup m=none)
  (h:Q (.ref g,[.ref a]) s):wpAny (model X.prog X.w) A (getMethod (.ref a) m pl) Q E s:=by
 obtain⟨M,O,r,_,_,_⟩:=Qf I.hok e;have hn:M m=none:=yA.none_of (by rw[<- l];exact r m)
 exact Pr I.kIn O (c.get m) k.at_ k.fn hn h
def Si {y:V}{Q:Unit->Shared->Prop}(I:Inv X pins σ H s)(e:H a=some (.ins C dx fs))(c:qG X.K C)(n:yR X.K C f)(B:fs.length<1000)(k:RelV y u)
  (h:∀s',Inv X pins σ (upd H a (.ins C dx (jC f y fs))) s'->Q () s'):wpAny (model X.prog X.w) A (setAttr (.ref a) f u) Q E s:=by
 obtain⟨M,O,r,i,_,j⟩:=Qf I.hok e;have l:(fs.map (·.1)).length<=sizeLine:=by rw[aL,sizeLine_eq];omega
 refine OM I.kIn O c.sa c.po n.taker c.hd i l λh' d S=>h _ ?_;have hd:∃o,h'.get? dx=some o:=let ⟨o,_,_,v,_⟩:=d.ns;⟨o,v⟩
 refine I.write (x:=a) (e:=dx) (by rw[e];exact True.intro) (.inr j) (λb q t z=>(S.2 b t).trans z) hd ?_
 refine⟨by rw[zF O.ne];exact j,?_,O.ne,d.obj,_,d.ns,λg=>?_,λg p=>?_⟩
 ·have:=WA f y fs;omega
 ·show yA ((jC f y fs).lookup g) (if g=f then some u else M g)
  rw[Wv]
  by_cases q:g=f
  ·rw[af q,af q];exact k
  ·rw[ag q,ag q];exact r g
 ·by_cases q:g=f
  ·rw[q];exact(JT f y fs).1
  ·refine(JT f y fs).2 g (i g λz=>p ?_)
   show(if g=f then some u else M g)=none;rw[ag q];exact z
def Inv.made (I:Inv X pins σ H s):Inv X pins σ (upd (upd H s.heap.objs.size (.own (s.heap.objs.size+1))) (s.heap.objs.size+1) (.ins C s.heap.objs.size []))
  { s with heap:=(s.heap.push emptyDict).push (instObj C s.heap.objs.size) }:=by
 have E:(s.heap.push emptyDict).get? s.heap.objs.size=some emptyDict:=ah s.heap rfl;have d:((s.heap.push emptyDict).push (instObj C s.heap.objs.size)).get? (s.heap.objs.size+1)=some (instObj C s.heap.objs.size):=by
  have:=ah (s.heap.push emptyDict) (o:=instObj C s.heap.objs.size) rfl
  rwa[aN]at this
 have c:(s.heap.push emptyDict).Ns s.heap.objs.size (λ_=>none):=⟨emptyDict,#[],_,E,rfl,(λe he=>absurd he (by simp)),λ_=>rfl⟩
 have i:=I.laid (a:=s.heap.objs.size) (o:=.own (s.heap.objs.size+1)) (h':=s.heap.push emptyDict) (t':=s.toks) (λb u q=>aa _ q) (ak _) ⟨_,E⟩;refine i.laid (a:=s.heap.objs.size+1) (o:=.ins C s.heap.objs.size []) (t':=s.toks) (λb u q=>aa _ q) (le_of_eq (aN _ _)) ?_;have ne:s.heap.objs.size≠s.heap.objs.size+1:=az (aV _);refine⟨by rw[zF ne,ql],Nat.zero_le _,ne,d,λ_=>none,(Heap.Ns1.of_empty c).at λo q=>aa _ q,λ_=>True.intro,λy h=>absurd rfl h⟩
def Nd {prog:Program}{f:Str}(H:attributeBase e f env (eval e env)=eval e env)
  (h:wpAny (model prog w) A (eval e env) (λo S=>wpAny (model prog w) A (getAttr o f true) Q E S) E s):wpAny (model prog w) A (eval (.Attribute e f pos) env) Q E s:=
 Attribute_any_ h (by rw[arm_eval_Attribute,H])
end
def IZ (K:Frag)(t:TE)(f:Str):TE:=λσ H Q=>t σ H λx H1=>∃a C d fs v,x=.ref a/\H1 a=some (.ins C d fs)/\qG K C/\yR K C f/\fs.lookup f=some v/\Q v H1
def HC (K:Frag)(T t:TE)(f:Str):TS:=λD σ H=>t σ H λy H1=>T σ H1 λx h=>∃a C d fs,x=.ref a/\h a=some (.ins C d fs)/\qG K C/\yR K C f/\fs.length<1000/\
 D.nx σ (upd h a (.ins C d (jC f y fs)))
section
variable {X:Cx}{o value:Expr}{f:Str}{pos':Pos}{ta tv:TE}
def NN (he:PE X e ta)(d:attributeBase e f X.env (eval e X.env)=eval e X.env):PE X (.Attribute e f pos) (IZ X.K ta f):=by
 intro pins s σ H Q I h;refine Nd d (zw (he pins s σ H _ I h) λu s1 ⟨x,H1,g,r,a,C,D,fs,v,ex,E,c,n,l,q⟩=>?_);subst ex;obtain rfl:u=Value.ref a:=r;exact S0 g E c n l λU s2 i b=>⟨v,H1,i,b,q⟩
def NY (g:PE X o ta)(d:PE X value tv)(e:swapsWith value (some (.Attribute o f pos')) pos.line X.env=pure false):PS X (.Assign [.Attribute o f pos'] value pos) (HC X.K ta tv f):=by
 intro pins s σ H D I h;refine plainObj_wpAny_Assign_Attribute (zw (d pins s σ H _ I h) λu s1 ⟨y,H1,k,r,q⟩=>zw (g pins s1 σ H1 _ k q) λv s2 ⟨x,t,j,b,a,C,p,fs,ex,E,c,n,l,Q⟩=>?_) e;subst ex;obtain rfl:v=Value.ref a:=b;exact Si j E c n l r λs3 i=>⟨σ,_,i,Q⟩
end
section
variable {X:Cx}{σ:St}{H:Hp}{A:Around}{c:Value}{b:Bool}
inductive j9 (K:Frag)(H:Hp):V->Value->Prop where
 |non:j9 K H .non (.type "NoneType")
 |bl (x:Bool):j9 K H (.bl x) (.type "bool")
 |int (i:Int):j9 K H (.int i) (.type "int")
 |str (x:Str):j9 K H (.str x) (.type "str")
 |flt (x:UInt64):j9 K H (.flt x) (.type "float")
 |lst {a:Addr} {xs:List V} (e:H a=some (.lst xs)):j9 K H (.ref a) (.type "list")
 |frz {a:Addr} {o:Obj} {xs:List V} (e:H a=some (.frz o (.lst xs))):j9 K H (.ref a) (.type "list")
 |tup {a:Addr} {xs:List V} (e:H a=some (.tup xs)):j9 K H (.ref a) (.type "tuple")
 |dK {a:Addr} {kvs:List (Key×V)} (e:H a=some (.dK kvs)):j9 K H (.ref a) (.type "dict")
 |dT {a:Addr} {kvs:List (List Key×V)} (e:H a=some (.dT kvs)):j9 K H (.ref a) (.type "dict")
 |ins {a C dx:Addr} {fs:List (Str×V)} (e:H a=some (.ins C dx fs)) (cl:qG K C) (ha:PySem.W.findIn K (.ref C) "__class__"=some (some (.builtin "object.__class__")))
   (hn:PySem.W.specialIn K (.builtin "object.__class__") "__get__"=some (some (.builtin "getset_descriptor.__get__"))) (htk:PySem.W.takesIn K (.builtin "object.__class__")=some true)
   (hm:PySem.W.mroIn K C (.type "object")=some true):j9 K H (.ref a) (.ref C)
def Gh {x:V}{t:Value}(I:Inv X pins σ H s)(r:RelV x u)(ty:j9 X.K H x t)(e:kitOne X.K t c=some b)(h:∀T,Q (.bool b) { s with toks:=T }):
  wpAny (model X.prog X.w) A (call (.builtin "isinstance") [u,c]) Q E s:=by
 cases ty with
 |non=>cases (show u=Value.none from r);exact aX PySem.W.kitx_none I.kIn True.intro e (λz=>nomatch z) h
 |bl y=>cases (show u=Value.bool y from r);exact aX PySem.W.kitx_bool I.kIn True.intro e (λz=>nomatch z) h
 |int i=>obtain⟨t,q⟩:=(show ∃t,u=Value.int i t from r);cases q;exact aX PySem.W.kitx_int I.kIn True.intro e (λz=>nomatch z) h
 |str y=>obtain⟨t,q⟩:=(show ∃t,u=Value.str y t from r);cases q;exact aX PySem.W.kitx_str I.kIn True.intro e (λz=>nomatch z) h
 |flt y=>obtain⟨t,q⟩:=(show ∃t,u=Value.float y t from r);cases q;exact aX PySem.W.kitx_float I.kIn True.intro e (λz=>nomatch z) h
 |@lst a xs ea=>
  cases (show u=Value.ref a from r)
  obtain⟨_,_,n,_,d⟩:=(show qd X.prog X.w H s.heap a (.lst xs) from I.hok a _ ea)
  exact aX kitx_list I.kIn ⟨_,d,rfl⟩ e (λz=>nomatch z) h
 |@frz a ob xs ea=>
  cases (show u=Value.ref a from r)
  obtain⟨_,_,_,n,_,d⟩:=(show qd X.prog X.w H s.heap a (.frz ob (.lst xs)) from I.hok a _ ea)
  exact aX kitx_list I.kIn ⟨_,d,rfl⟩ e (λz=>nomatch z) h
 |@tup a xs ea=>
  cases (show u=Value.ref a from r)
  obtain⟨_,_,_,p⟩:=(show qd X.prog X.w H s.heap a (.tup xs) from I.hok a _ ea)
  obtain⟨o,d,f,_⟩:=p;exact aX kitx_tuple I.kIn ⟨o,d,f.1⟩ e (λz=>nomatch z) h
 |@dK a kvs ea=>
  cases (show u=Value.ref a from r)
  obtain⟨_,_,vs,_,p⟩:=(show qd X.prog X.w H s.heap a (.dK kvs) from I.hok a _ ea)
  obtain⟨o,j,l,d,f,_⟩:=p;exact aX kitx_dict I.kIn ⟨o,d,f.1⟩ e (λz=>nomatch z) h
 |@dT a kvs ea=>
  cases (show u=Value.ref a from r)
  obtain⟨_,_,xs,_,o,j,l,d,f,_⟩:=(show qd X.prog X.w H s.heap a (.dT kvs) from I.hok a _ ea)
  exact aX kitx_dict I.kIn ⟨o,d,f.1⟩ e (λz=>nomatch z) h
 |@ins a C dx fs ea cl g hn k hm=>
  cases (show u=Value.ref a from r)
  obtain⟨M,O,_⟩:=Qf I.hok ea;obtain⟨v,J,_⟩:=O.look;exact aX (PySem.W.kitx_own (cl.get _) cl.hd g hn k hm) I.kIn J e (λz=>nomatch z) h
end
structure zW (k:Nat)(A:Around):Prop where
 hd:A.handled=none
 dp:A.depth+3 * k+5<recursionLimit
 un:A.units+16 * k+200<cLine
 gd:A.guards=some []
def zW.mono {A:Around}(r:zW k A)(h:j<=k):zW j A:=⟨r.hd,by have:=r.dp;omega,by have:=r.un;omega,r.gd⟩
theorem zW.deeper {A:Around}(r:zW (k+1) A)(env:Env):zW k (A.deeper env):=
 ⟨r.hd,by have:=r.dp;show A.depth+1+3 * k+5<_;omega,by have:=r.un;show A.units+3+16 * k+200<_;omega,r.gd⟩
def Sz {A:Around}:(A.under (.builtin "type.__call__" ⟨.ref C::us,kw⟩)).depth=A.depth+1:=by
 first|rfl|simp[Around.under,Code.weight,Code.isCreation,Code.isGuard,Code.isCaller,Code.frames,Code.isFrame,guardIds]
def S9 {A:Around}:(A.under (.builtin "type.__call__" ⟨.ref C::us,kw⟩)).units=A.units+1:=by
 first|rfl|simp[Around.under,Code.cUnits,Code.frames,Code.isFrame]
def zW.make {A:Around}(r:zW (k+1) A)(C:Addr)(us:a7)(kw:List (Str×Value)):zW k (A.under (.builtin "type.__call__" ⟨.ref C::us,kw⟩)):=
 ⟨r.hd,by have:=r.dp;rw[Sz];omega,by have:=r.un;rw[S9];omega,by have:=r.gd;first|exact this|(simp[Around.under,Code.guards,Code.isGuard,guardIds,pushGuards,this])⟩
theorem zW.depth {A:Around}(r:zW k A):A.depth<recursionLimit:=by have:=r.dp;omega
theorem zW.units {A:Around}(r:zW k A):A.units+64<cLine:=by have:=r.un;omega
noncomputable def QI:TA:=λ_ H Q=>Q [] H
noncomputable def Qy (t:TE)(tr:TA):TA:=λσ H Q=>t σ H λx H1=>tr σ H1 λxs h=>Q (x::xs) h
section
variable {X:Cx}{te:TE}{t:TA}
def qT:PA X [] QI:=λ_ _ _ _ H Q I h=>Calls.spliced_nil ⟨[],H,I,.nil,h⟩
def qy (f:PE X e te)(d:PA X es t)(c:starEach (e::es) X.env=(false,eval e X.env)::starEach es X.env:=by rfl):PA X (e::es) (Qy te t):=by
 intro pos pins s σ H Q I h;rw[c];show wpAny _ _ (spliced ((false,eval e X.env)::backTo pos (starEach es X.env))) _ _ s;refine Calls.spliced_cons (zw (f pins s σ H _ I h) λu s1 ⟨x,H1,g,a,b⟩=>?_);exact zw (d pos pins s1 σ H1 _ g b) λus s2 ⟨xs,j,i,r,q⟩=>⟨x::xs,j,i,.cons a r,q⟩
def HG (t:TA):TE:=λσ H Q=>t σ H λxs H1=>xs.length<=sizeLine/\∀p,H1 p=none->Q (.ref p) (upd H1 p (.tup xs))
def HD (t:TA):TE:=λσ H Q=>t σ H λxs H1=>xs.length<=sizeLine/\∀p,H1 p=none->Q (.ref p) (upd H1 p (.lst xs))
def La {x1}(h:PA X es t):PE X (.Tuple es x1 pos) (HG t):=by
 intro pins s σ H Q I a;refine wpAny_Tuple_spliced (zw (h pos pins s σ H _ I a) λus s1 ⟨xs,H1,i,r,z,q⟩=>⟨by rw[<- r.length];exact z,?_⟩)
 have hf:H1 s1.heap.objs.size=none:=i.hok.fresh (ak _);refine⟨.ref s1.heap.objs.size,upd H1 s1.heap.objs.size (.tup xs),i.laid (t':=s1.toks) (λb u e=>aa _ e) (ak _) ?_,rfl,q _ hf⟩;exact⟨z,us,r,⟨_,ah _ rfl,⟨rfl,rfl⟩,_,rfl⟩⟩
def MC (h:PA X es t):PE X (.List es pos) (HD t):=by
 intro pins s σ H Q I a;refine wpAny_List_spliced (zw (h pos pins s σ H _ I a) λus s1 ⟨xs,H1,i,r,z,q⟩=>⟨by rw[<- r.length];exact z,?_⟩)
 have hf:H1 s1.heap.objs.size=none:=i.hok.fresh (ak _);refine⟨.ref s1.heap.objs.size,upd H1 s1.heap.objs.size (.lst xs),i.laid (t':=s1.toks) (λb u e=>aa _ e) (ak _) ?_,rfl,q _ hf⟩;exact⟨z,us,0,r,ah _ rfl⟩
end
abbrev Sp:=List V->Hp->VK->XK->Prop
abbrev yk:=List Env->Hp->Shared->XK->Value->Shared->Prop
structure kn (P:Program)(w:World)(K:Frag)(mg:bh)(base:Heap)(A:Around)(outer:bj)(s:Shared)(H:Hp):Prop where
 frames:A.frames=some outer
 mod:Mod K mg base
 bs:∀b o,base.get? b=some o->s.heap.get? b=some o/\H b=none
 bsz:base.objs.size<=s.heap.objs.size
 funs:s.heap.FunFrames base outer
 frf:∀b∈zK outer,H b=none
 hok:z9 P w H s.heap
 bare:AllBare s.gens
inductive CE (outer:bj)(P:Program)(w:World)(H:Hp)(s:Shared)(Q:VK)(u:Value)(s':Shared):Prop
 |mk (v:V) (H':Hp) (os:s'.os=s.os) (b:AllBare s'.gens) (un:Un (zK outer) [] H H' s.heap s'.heap) (hk:z9 P w H' s'.heap) (r:RelV v u) (q:Q v H')
def CR (C:yk)(outer:bj)(P:Program)(w:World)(H:Hp)(s:Shared)(Q:VK)(E:XK)(r:Result)(s':Shared):Prop:=
 match r with
 |.ok (.ret u)=>CE outer P w H s Q u s'|.ok _=>False|.error e=>C outer H s E e s'
structure qA (P:Program)(w:World)(K:Frag)(mg:bh)(base:Heap)(CX:yk)(k:Nat)(f:Addr)(fd:FuncData)(ps:bb)(sp:Sp):Prop where
 len:∀vs H Q E,sp vs H Q E->vs.length=ps.length
 run:∀(A:Around)(outer:bj)(s:Shared)(H:Hp)(args:Args)(us:a7)(vs:List V)(Q:VK)(E:XK),zW k A->kn P w K mg base A outer s H->BindsTo s fd args (ps.zip us)->Vals vs us->sp vs H Q E->
  codeAny (model P w) A (.call (.ref f) args) (CR CX outer P w H s Q E) s
theorem qA.mono {K:Frag}{C:yk}{sp:Sp}(F:qA P w K mg base C j f fd ps sp)(h:j<=k):
  qA P w K mg base C k f fd ps sp:=⟨F.len,λA outer s H args us vs Q E r=>F.run A outer s H args us vs Q E (r.mono h)⟩
def qA.imp {K:Frag}{C:yk}{sp S:Sp}(F:qA P w K mg base C k f fd ps sp)
  (h:∀vs H Q E,S vs H Q E->sp vs H Q E):qA P w K mg base C k f fd ps S:=
 ⟨λvs H Q E q=>F.len vs H Q E (h _ _ _ _ q),λA outer s H args us vs Q E r he b v a=>F.run A outer s H args us vs Q E r he b v (h _ _ _ _ a)⟩
def kn.make {K:Frag}{A:Around}{H:Hp}(e:kn P w K mg base A outer s H)(C:Addr)(us:a7)(kw:List (Str×Value)):
  kn P w K mg base (A.under (.builtin "type.__call__" ⟨.ref C::us,kw⟩)) outer s H:=⟨by first|exact e.frames|(simpa[Around.under,Code.envs,Code.isFrame,pushEnvs] using e.frames),e.mod,e.bs,e.bsz,e.funs,e.frf,e.hok,e.bare⟩
section
variable {X:Cx}{σ:St}{H:Hp}
def Inv.env0 (I:Inv X pins σ H s):kn X.prog X.w X.K X.mg X.base X.A X.stack s H:=
 ⟨I.ok.frames,I.ok.mod,I.bs,aW I.ok.bsz I.sz,I.stack,I.stkFree,I.hok,I.bare⟩
def Inv.after {Q:VK}(I:Inv X pins σ H s)(h:CE X.stack X.prog X.w H s Q u s'):EP X pins σ Q u s':=by
 obtain⟨v,c,os,bare,un,hok,r,q⟩:=h;obtain⟨a,g,d,t,o⟩:=s';obtain rfl:o=s.os:=os;exact⟨v,c,I.call (h':=a) (g':=g) (d':=d) (t':=t) (ch:=[]) un hok bare (λb z=>absurd z (by simp)),r,q⟩
end
noncomputable def Ig (sp:Sp)(d:List V)(E:XK)(t:TA):TE:=λσ H Q=>t σ H λvs H1=>sp (vs++d) H1 Q E
def XO (C:Addr)(m:Str)(sp:Sp)(d:List V)(E:XK)(T:TE)(t:TA):TE:=λσ H Q=>T σ H λx H1=>∃a D fs,x=.ref a/\H1 a=some (.ins C D fs)/\fs.lookup m=none/\
 t σ H1 λvs h=>sp (x::(vs++d)) h Q E
def IA (C:Addr)(sp:Sp)(D:List V)(E:XK)(t:TA):TE:=λσ H Q=>t σ H λvs H1=>∀x d,H1 x=none->H1 d=none->d≠x->
 sp (.ref x::(vs++D)) (upd (upd H1 d (.own x)) x (.ins C d [])) (λv h=>v=.non/\Q (.ref x) h) E
def Binds (K:Frag)(fd:FuncData)(p:bb)(ds:a7):Prop:=
 ∀(s:Shared)(us:a7),K.In s.heap->(us++ds).length=p.length->BindsTo s fd ⟨us,[]⟩ (p.zip (us++ds))
def Binds.all {K:Frag}(h:∀us:a7,us.length=ps.length->bindArgs fd ⟨us,[]⟩=pure (ps.zip us)):Binds K fd ps []:=λs us _ H=>by
 rw[aT]at H ⊢;exact .of_eq (h us H)
def Passes (C:yk)(X:Cx)(E:XK):Prop:=∀(pins:a9)(σ:St)(H:Hp)(s:Shared)(e:Value)(s':Shared),Inv X pins σ H s->C X.stack H s E e s'->X.xe e s'
section
variable {X:Cx}{CX:yk}{sp:Sp}{dvs:List V}{ds:a7}{E:XK}{m:Str}{o:Expr}{ta:TE}{t:TA}
def Yz {σ:St}{H:Hp}{Q:VK}{vs:List V}(F:qA X.prog X.w X.K X.mg X.base CX k f fd ps sp)(b:zW k X.A)(c:Binds X.K fd ps ds)(hd:Vals dvs ds)(x:Passes CX X E)
  (I:Inv X pins σ H s)(r:Vals vs us)(h:sp (vs++dvs) H Q E):wpAny (model X.prog X.w) X.A (call (.ref f) us) (EP X pins σ Q) X.xe s:=by
 have a:Vals (vs++dvs) (us++ds):=r.append hd;have l:(us++ds).length=ps.length:=by rw[<- a.length];exact F.len _ _ _ _ h
 refine wpAny_call (codeAny_mono (F.run X.A X.stack s H ⟨us,[]⟩ (us++ds) (vs++dvs) Q E b I.env0 (c s us I.kIn l) a h) λr s' q=>?_);cases r with
 |error e=>exact x pins σ H s e s' I q|ok d=>
  cases d with
  |ret u=>exact I.after q|next=>exact False.elim q|brk=>exact False.elim q|cont=>exact False.elim q
def G2 (F:qA X.prog X.w X.K X.mg X.base CX k f fd ps sp)(c:zW k X.A)(g:Gl X x)(hm:X.mg x=some (.ref f))(d:keepIn X.K (.ref f)=true)(j:Binds X.K fd ps ds)(hd:Vals dvs ds)(a:Passes CX X E)
  (n:PA X (e::es) t)(b:(x==("__debug__":Str))=false:=by decide)(he:starEach (e::es) X.env=(false,eval e X.env)::starEach es X.env:=by rfl)(l:(backTo pos (starEach es X.env)).any (·.1)=false:=by rfl):
  PE X (.Call (.Name x p) (e::es) [] pos) (Ig sp dvs E t):=by
 intro pins s σ H Q I h;refine wpAny_Call_Name_kw (gm I g hm ?_ b);refine callWith_K (h₀:=X.base) I.ok.mod.kin d (zw (n pos pins s σ H _ I h) λus s1 ⟨vs,H1,i,r,q⟩=>⟨i.kIn,?_⟩) he l;exact Yz F c j hd a i r q
def G5 (he:PE X o ta)(c:qG X.K C)(hm:Meth X.K C m f)(F:qA X.prog X.w X.K X.mg X.base CX k f fd ps sp)(y:zW k X.A)(z:Binds X.K fd ps ds)(hd:Vals dvs ds)(p:Passes CX X E)(B:PA X (e::es) t)
  (b:starEach (e::es) X.env=(false,eval e X.env)::starEach es X.env:=by rfl)(d:(backTo pos (starEach es X.env)).any (·.1)=false:=by rfl)
  (v:eval (.Call (.Attribute o m apos) (e::es) [] pos) X.env=(do
   let ov <- eval o X.env
   standAt apos.atName
   let (f,first) <- holding [ov] (getMethod ov m pl)
   callWith pos f first (backTo pos (starEach (e::es) X.env)) (backToKw pos (keywordEach [] X.env))):=by rfl):
  PE X (.Call (.Attribute o m apos) (e::es) [] pos) (XO C m sp dvs E ta t):=by
 intro pins s σ H Q I h;refine PySem.W.methodCall_KW (pl:=pl) (zw (he pins s σ H _ I h) λu s1 ⟨x,H1,g,j,a,J,fs,ex,D,l,q⟩=>?_) v;subst ex;obtain rfl:u=Value.ref a:=j;refine Rc g D c hm l ?_;refine callWith_K (first:=[.ref a]) (h₀:=X.base) I.ok.mod.kin hm.kp (zw (B pos pins s1 σ H1 _ g q) λus s2 ⟨vs,L,i,r,n⟩=>⟨i.kIn,?_⟩) b d;exact Yz (us:=.ref a::us) (vs:=.ref a::vs) F y z hd p i (.cons rfl r) n
structure Mk (K:Frag)(C f:Addr):Prop where
 makes:makesIn K C=true
 init:PySem.W.findIn K (.ref C) "__init__"=some (some (.ref f))
 fn:isFn K (.ref f)=true
 kp:keepIn K (.ref C)=true
def Oj {σ:St}{H:Hp}{Q:VK}{vs:List V}(M:Mk X.K C f)(F:qA X.prog X.w X.K X.mg X.base CX k f fd ps sp)(l:zW (k+1) X.A)(o:Binds X.K fd ps ds)(hd:Vals dvs ds)
  (j:Passes CX X E)(I:Inv X pins σ H s)(r:Vals vs us)
  (h:∀x d,H x=none->H d=none->d≠x->sp (.ref x::(vs++dvs)) (upd (upd H d (.own x)) x (.ins C d [])) (λv y=>v=.non/\Q (.ref x) y) E):
  wpAny (model X.prog X.w) X.A (call (.ref C) us) (EP X pins σ Q) X.xe s:=by
 have q:=h (s.heap.objs.size+1) s.heap.objs.size (I.hok.fresh (Nat.le_succ _)) (I.hok.fresh (ak _)) (az (aV _));have i:=Inv.made (C:=C) I;have b:Vals (V.ref (s.heap.objs.size+1)::(vs++dvs)) (Value.ref (s.heap.objs.size+1)::(us++ds)):=.cons rfl (r.append hd);have n:(Value.ref (s.heap.objs.size+1)::us++ds).length=ps.length:=by
  have e:=b.length;rw[F.len _ _ _ _ q]at e;exact e.symm
 refine wpAny_call (PJ (f:=f) I.kIn M.makes M.init (au.mp M.fn) (codeAny_mono (F.run _ X.stack _ _ ⟨Value.ref (s.heap.objs.size+1)::us,[]⟩ (Value.ref (s.heap.objs.size+1)::(us++ds)) _ _ E (l.make C us [])
  (i.env0.make C us []) (o _ (Value.ref (s.heap.objs.size+1)::us) i.kIn n) b q) λr s' a=>?_))
 cases r with
 |error e=>exact j pins σ _ _ e s' i a|ok p=>
  cases p with
  |ret u=>
   obtain⟨v,z,t,c,ev,g⟩:=i.after a;subst ev;exact⟨c,⟨V.ref (s.heap.objs.size+1),z,t,rfl,g⟩⟩
  |next=>exact False.elim a|brk=>exact False.elim a|cont=>exact False.elim a
def Ph (M:Mk X.K C f)(F:qA X.prog X.w X.K X.mg X.base CX k f fd ps sp)(r:zW (k+1) X.A)(g:Gl X x)(hm:X.mg x=some (.ref C))(c:Binds X.K fd ps ds)(hd:Vals dvs ds)(a:Passes CX X E)
  (b:(x==("__debug__":Str))=false:=by decide):PE X (.Call (.Name x p) [] [] pos) (IA C sp dvs E QI):=by
 intro pins s σ H Q I h;refine wpAny_Call_Name_kw (gm I g hm ?_ b);exact callWith_K0 I.kIn M.kp (Oj (us:=[]) M F r c hd a I .nil h)
end
structure zV (N P:bb)(sc:Scope):Prop where
 kind:sc.kind=.function
 co:sc.isCoroutine=false
 gen:sc.isGenerator=false
 nd:N.Nodup
 pre:N.take P.length=P
 par:∀x∈P,sc.names.lookup x=some .local∨sc.names.lookup x=some .cell
 nofree:∀y∈sc.names,y.2≠.free
theorem Gd {kindOf:Str->Option NameKind}:∀{binds:List (Str×Value)}{m:bh},(∀v,(x,v)∉binds)->bindL kindOf binds m x=m x
 |[],_,_=>rfl|(n,v)::r,m,h=>by
  unfold bindL;rw[Gd λw hw=>h w (av _ hw)]
  split
  ·have:x≠n:=by rintro rfl;exact h v aA
   simp[this]
  ·rfl
theorem Gq {kindOf:Str->Option NameKind}:∀{binds:List (Str×Value)}{m:bh},(∀v,(x,v)∉binds)->bindC kindOf binds m x=m x
 |[],_,_=>rfl|(n,v)::r,m,h=>by
  unfold bindC;rw[Gq λw hw=>h w (av _ hw)]
  split
  ·rfl
  ·have:x≠n:=by rintro rfl;exact h v aA
   simp[this]
theorem W8 {kindOf:Str->Option NameKind}{v:Value}:∀{P:bb}{vs:a7}{i:Nat}{m:bh},P.Nodup->P[i]? =some x->vs[i]? =some v->kindOf x=some .local->
  bindL kindOf (P.zip vs) m x=some v
 |[],_,_,_,_,h,_,_=>by simp at h|_::_,[],_,_,_,_,h,_=>by simp at h|p::P,w::vs,0,m,nd,h1,H,k=>by
  simp at h1 H;subst h1;subst H;show bindL kindOf ((p,w)::P.zip vs) m p=_;unfold bindL;rw[Gd λv a=>(List.nodup_cons.mp nd).1 (of_mem_zip a).1,af k];simp
 |p::P,w::vs,i+1,m,nd,h1,H,k=>by
  show bindL kindOf ((p,w)::P.zip vs) m x=_;unfold bindL;exact W8 (i:=i) (List.nodup_cons.mp nd).2 (by simpa using h1) (by simpa using H) k
theorem W7 {kindOf:Str->Option NameKind}{v:Value}:∀{P:bb}{vs:a7}{i:Nat}{m:bh},P.Nodup->P[i]? =some x->vs[i]? =some v->kindOf x≠some .local->
  bindC kindOf (P.zip vs) m x=some v
 |[],_,_,_,_,h,_,_=>by simp at h|_::_,[],_,_,_,_,h,_=>by simp at h|p::P,w::vs,0,m,nd,h1,H,k=>by
  simp at h1 H;subst h1;subst H;show bindC kindOf ((p,w)::P.zip vs) m p=_;unfold bindC;rw[Gq λv a=>(List.nodup_cons.mp nd).1 (of_mem_zip a).1,ag k];simp
 |p::P,w::vs,i+1,m,nd,h1,H,k=>by
  show bindC kindOf ((p,w)::P.zip vs) m x=_;unfold bindC;exact W7 (i:=i) (List.nodup_cons.mp nd).2 (by simpa using h1) (by simpa using H) k
noncomputable def start (N:bb)(vs:List V):St:=vs.map some++List.replicate (N.length-vs.length) none
noncomputable def jA (C:yk)(P:Program)(w:World)(K:Frag)(mg:bh)(base:Heap)(N:bb)(qual:Str)(scope:Scope)(f:Addr)(cd:Value)(A:Around)(outer:bj)(s:Shared)(H:Hp)(E:XK):Cx where
 prog:=P
 w:=w
 K:=K
 mg:=mg
 base:=base
 A:=A.deeper (envOfC qual scope s.heap.objs.size f cd)
 N:=N
 s0:=s
 H0:=H
 env:=envOfC qual scope s.heap.objs.size f cd
 outer:=outer
 stack:=envOfC qual scope s.heap.objs.size f cd::outer
 ex:=[]
 calm:=true
 fn:=λ_=>true
 pn:=[]
 xe:=λe s'=>wpAny (model P w) (A.deeper (envOfC qual scope s.heap.objs.size f cd)) (leaving (envOfC qual scope s.heap.objs.size f cd) e) (λ_ S=>C outer H s E e S) (λa S=>C outer H s E a S) s'
def GC (h:sc.names.lookup x=some .cell):∃c,(cellsFrom n sc.names []).lookup x=some c:=by
 have q:=cellsFrom_some sc.names n [] (.inl h);exact Option.isSome_iff_exists.mp q
def RY {X:yk}{K:Frag}{cd:Value}{A:Around}{s1:Shared}{H:Hp}{E:XK}{vs:List V}
  (S:zV N ps scope)(hd:A.handled=none)(g:kn P w K mg base A outer s H)(Q:vs.length=ps.length)(r:Vals vs us)
  (x:InCallC s s.heap.objs.size (bindL (envOfC qual scope s.heap.objs.size f cd).kindOf (ps.zip us) λ_=>none) (cellsFrom (s.heap.objs.size+1) scope.names []) (bindC (envOfC qual scope s.heap.objs.size f cd).kindOf (ps.zip us) λ_=>none) s1):
  Inv (jA X P w K mg base N qual scope f cd A outer s H E) [] (start N vs) H s1:=by
 have L:ps.length<=N.length:=by have:=congrArg List.length S.pre;rw[length_take]at this;omega
 obtain⟨C,T,rfl,I⟩:=x.done;have j:∀b:Addr,b∉(jA X P w K mg base N qual scope f cd A outer s H E).ex:=λb z=>absurd (show b∈([]:a8) from z) (by simp)
 refine⟨⟨g.mod,S.kind,rfl,rfl,ak _,λy z c C d=>?_,λy l=>?_,λy c _ h=>?_,λ_=>hd,Around.frames_deeper g.frames,.inr ⟨rfl,rfl⟩,λb z=>absurd z (j b),g.bs,g.bsz,λb _ _=>j b,λb z=>absurd z (j b),g.funs,g.frf⟩,
  rfl,g.bare,Un.kept I,⟨_,x.toInCall.ns,λi y v C d U=>?_⟩,λy c h=>⟨_,x.cell y c h⟩,g.hok.fresh (ak _),λy c h=>?_,λp t=>absurd (show p∈([]:a9) from t) (by simp),g.hok.kept I,?_⟩
 ·exact name_of_addr x.apart (PySem.mem_of_lookup C) (PySem.mem_of_lookup d)
 ·have l:scope.names.lookup y=some .cell∨scope.names.lookup y=some .free:=l
  rcases l with l|l
  ·exact GC l
  ·exact absurd rfl (S.nofree _ (PySem.mem_of_lookup l))
 ·exact le_of_lt (x.above y c (PySem.mem_of_lookup h))
 ·have B:i<vs.length:=by
   unfold start at d
   by_cases B:i<vs.length
   ·exact B
   ·rw[ai (by simpa using B)]at d
    rw[aS]at d
    split at d<;>cases d
  have M:vs[i]? =some v:=by
   unfold start at d;rw[ae (by simpa using B),aK]at d
   cases e:vs[i]? with
   |none=>rw[e]at d;cases d|some a=>rw[e]at d;cases d;rfl
  obtain⟨u,D,J⟩:=r.get M;have t:ps[i]? =some y:=by
   rw[<- S.pre,List.getElem?_take_of_lt (by omega)];exact C
  have o:ps.Nodup:=by rw[<- S.pre];exact S.nd.sublist (List.take_sublist _ _)
  refine⟨u,J,?_⟩;rcases S.par y (a3 t) with k|k
  ·exact .inl ⟨k,W8 o t D k⟩
  ·obtain⟨c,e⟩:=GC (n:=s.heap.objs.size+1) k
   refine .inr ⟨.inl k,c,e,?_⟩;have q:=x.cell y c e;rw[W7 o t D (by show scope.names.lookup y≠_;rw[k];decide)]at q
   exact q
 ·exact g.hok.fresh (le_of_lt (x.above y c (PySem.mem_of_lookup h)))
 ·unfold start
  show _=N.length;rw[aE,aL,aZ];omega
def Qz {C:yk}{K:Frag}{name:Str}{params:Arguments}{body:br}{D kV doc pm c ct M:Value}{an L:bq}
  {sp:Sp}(lk:K.lookup f=some ⟨M,L,.func (fnOf name qual params body scope D kV doc pm an c ct),osl⟩)(B:codeIn K c qual=true)(S:zV N ps scope)
  (len:∀vs H Q E,sp vs H Q E->vs.length=ps.length)
  (g:∀(A:Around)(outer:bj)(s:Shared)(H:Hp)(vs:List V)(Q:VK)(E:XK),zW k (A.deeper (envOfC qual scope s.heap.objs.size f c))->sp vs H Q E->
   ∃t,jb (jA C P w K mg base N qual scope f c A outer s H E) body t/\t { nx:=λ_ h=>Q .non h,rt:=Q } (start N vs) H):
  qA P w K mg base C (k+1) f (fnOf name qual params body scope D kV doc pm an c ct) ps sp:=by
 refine⟨len,λA outer s H args us vs Q E z j hb r p=>?_⟩;have Z:=len _ _ _ _ p;have X:K.In s.heap:=j.mod.kin.keeps λb o e=>(j.bs b o e).1;have lim:s.heap.NoLimit:=j.mod.nolimit.keeps λb o e=>(j.bs b o e).1;have d:∀y∈ps.zip us,scope.names.lookup y.1=some .local∨(scope.names.lookup y.1=some .cell/\((cellsFrom (s.heap.objs.size+1) scope.names []).lookup y.1).isSome=true):=λ⟨n,v⟩ T=>by
  rcases S.par n (of_mem_zip T).1 with q|q
  ·exact .inl q
  ·exact .inr ⟨q,cellsFrom_some _ _ _ (.inl q)⟩
 refine codeAny_call_function z.depth (X _ _ lk) rfl S.co S.gen rfl (PySem.W.codeRec_of X B) (hb _ _ _ _ ?_);refine wpAny_newFunctionEnv_cells S.kind d λenv he s1 x=>?_;subst he;refine⟨lim.keeps x.toInCall.keep,codeAny_func ?_⟩;obtain⟨t,U,Y⟩:=g A outer s H vs Q E (z.deeper _) p;have I:Inv (jA C P w K mg base N qual scope f c A outer s H E) [] (start N vs) H s1:=RY S z.hd j Z r x;refine wpAny_mono (U [] s1 (start N vs) H _ I Y) (λfl s' i=>?_) λe s' i=>i;have fin:∀{a:St}{h:Hp}{v:V}{u:Value},Inv (jA C P w K mg base N qual scope f c A outer s H E) [] a h s'->RelV v u->Q v h->CE outer P w H s Q u s':=
  λ {a h v u} J l q=>⟨v,h,J.os,J.bare,J.base,J.hok,l,q⟩
 cases fl with
 |ret u=>
  obtain⟨v,a,h,J,l,q⟩:=i;exact fin J l q
 |next=>
  obtain⟨a,h,J,q⟩:=i;exact fin (v:=V.non) (u:=Value.none) J rfl q
 |brk=>
  obtain⟨_,_,_,q⟩:=i;exact False.elim q
 |cont=>
  obtain⟨_,_,_,q⟩:=i;exact False.elim q
section
variable {X:Cx}{t:TA}{id T:String}{r:List V->Hp->VK->Prop}
noncomputable def Q3 (r:List V->Hp->VK->Prop)(t:TA):TE:=λσ H Q=>t σ H λvs H1=>r vs H1 Q
def g9 (c:jI X (.builtin id) r)(g:Gl X x)(hm:X.mg x=none)(v:bootBuiltins x=some (.builtin id))(d:PA X (e::es) t)(hn:x ≠ "__name__":=by decide)(b:(x==("__debug__":Str))=false:=by decide)
  (he:starEach (e::es) X.env=(false,eval e X.env)::starEach es X.env:=by rfl)(l:(backTo pos (starEach es X.env)).any (·.1)=false:=by rfl):PE X (.Call (.Name x p) (e::es) [] pos) (Q3 r t):=by
 intro pins s σ H Q I h;refine wpAny_Call_Name_kw (wy I g hm v ?_ hn b);exact PyProof.Rows.callWith_builtin1 (zw (d pos pins s σ H _ I h) λus s1 ⟨vs,H1,i,a,q⟩=>c pins s1 σ H1 vs us Q i a q) he l
def JS (c:jI X (.type T) r)(g:Gl X x)(hm:X.mg x=none)(v:bootBuiltins x=some (.type T))(d:PA X (e::es) t)(hn:x ≠ "__name__":=by decide)(b:(x==("__debug__":Str))=false:=by decide)
  (he:starEach (e::es) X.env=(false,eval e X.env)::starEach es X.env:=by rfl)(l:(backTo pos (starEach es X.env)).any (·.1)=false:=by rfl):PE X (.Call (.Name x p) (e::es) [] pos) (Q3 r t):=by
 intro pins s σ H Q I h;refine wpAny_Call_Name_kw (wy I g hm v ?_ hn b);exact PyProof.Rows.callWith_type1 (zw (d pos pins s σ H _ I h) λus s1 ⟨vs,H1,i,a,q⟩=>c pins s1 σ H1 vs us Q i a q) he l
end
end L2
variable {X:L2.Cx}{o:L2.HO}{H:L2.Hp}{kvs:List (L2.Key×L2.V)}{vs xs ys:List L2.V}{r:List L2.V->L2.Hp->L2.VK->Prop}{σ:L2.St}{v:L2.V}
namespace HT
open PySem PyProof.Rows
section
open PySem.SeqAt
open PySem.AutoSeq1 (wpAny_loadPart')
open PySem.MeetsSeq PySem.MeetsSeq2 PySem.MeetsSeq3
end
section
variable {prog:Program}{A:Around}
def O1 {t:Addr}{vs ws:a7}(a:IsTup s.heap t vs.toArray)(f:IsTup s.heap b ws.toArray)(v:vs≠[])
  (i:ws=[]->Q (.ref t) s)(g:ws≠[]->Q (.ref s.heap.objs.size) { s with heap:=s.heap.push { cls:=.type "tuple",data:=.seq (vs++ws).toArray } })
  (z:vs.length+ws.length<=sizeLine):wpAny (model prog w) A (binaryOp .Add (.ref t) (.ref b)) Q E s:=by
 obtain⟨⟨cls,dd,data,l⟩,o,c,n,hd⟩:=id a;obtain⟨⟨C,d,data2,S⟩,h,H,N,hd2⟩:=id f;simp only at c hd H hd2;subst c hd H hd2;have e:vs.toArray++ws.toArray=(vs++ws).toArray:=by simp
 by_cases hw:ws=[]
 ·exact concat_meets ⟨_,o,rfl⟩ ⟨_,h,rfl⟩ noFill_tuple_add seq_tuple_add slot_tuple_add entry_tuple_add (args_tuple_add_2 _ _)
   (tuple_addW1 t b vs.toArray ws.toArray n N dd d l S (by simpa using v) (by simp[hw])) ⟨o,h,i hw⟩
 ·refine concat_meets ⟨_,o,rfl⟩ ⟨_,h,rfl⟩ noFill_tuple_add seq_tuple_add slot_tuple_add entry_tuple_add (args_tuple_add_2 _ _)
   (tuple_addW2 t b vs.toArray ws.toArray n N dd d l S (by simpa using v) (by simpa using hw) (by rw[ax,ax];exact z)) ⟨o,h,?_⟩
  rw[e];exact g hw
noncomputable def jk (n d:Nat):Option Int->Nat
 |none=>d|some v=>if v<0 then(v+(n:Int)).toNat else min v.toNat n
end
end HT
namespace L2
open PySem PySem.Spec PyProof.Rows
abbrev TO:=St->Hp->(Option Int->Hp->Prop)->Prop
def PO (X:Cx)(e:Option Expr)(t:TO):Prop:=
 ∀(pins:a9)(s:Shared)(σ:St)(H:Hp)(Q:Option Int->Hp->Prop),Inv X pins σ H s->t σ H Q->
  wpAny (model X.prog X.w) X.A (evalPart e X.env) (λu s'=>∃o h,Inv X pins σ h s'/\IsPart u o/\Q o h) X.xe s
noncomputable def O7:TO:=λ_ H Q=>Q none H
noncomputable def IB (t:TE):TO:=λσ H Q=>t σ H λx H1=>∃i,x=.int i/\Q (some i) H1
section
variable {te:TE}{lo hi:Option Expr}{tl th:TO}{p2:Pos}
def O0:PO X none O7:=by
 intro pins s σ H Q I h;rw[evalPart_none];exact bw ⟨none,H,I,.none,h⟩
def OY (h:PE X e te):PO X (some e) (IB te):=by
 intro pins s σ H Q I hw;rw[evalPart_some];refine zw (h pins s σ H _ I hw) λu s1 ⟨x,H1,b,r,a⟩=>?_;obtain⟨i,rfl,q⟩:=a;obtain⟨t,rfl⟩:=r;exact⟨some i,H1,b,.int i t,q⟩
def Vu (X:Cx)(r:V->Option Int->Option Int->Hp->VK->Prop):Prop:=
 ∀(pins:a9)(s:Shared)(σ:St)(H:Hp)(x:V)(v l u:Value)(lo hi:bg)(S:Addr)(Q:VK),Inv X pins σ H s->RelV x v->s.heap.IsSliceOf S l u .none->IsPart l lo->IsPart u hi->r x lo hi H Q->
  ∃T id,typeLookup (.type T) "__getitem__"=pure (some (.builtin id))/\s.TypeIs v T/\wpAny (model X.prog X.w) X.A (getItem v (.ref S)) (EP X pins σ Q) X.xe s
noncomputable def HU (r:V->Option Int->Option Int->Hp->VK->Prop)(T:TE)(t th:TO):TE:=λσ H Q=>T σ H λx H1=>t σ H1 λl a=>th σ a λu h=>r x l u h Q
def Py {r:V->Option Int->Option Int->Hp->VK->Prop}(n:Vu X r)(he:PE X e te)(o:PO X lo tl)(k:PO X hi th):PE X (.Subscript e (.Slice lo hi none p2) pos) (HU r te tl th):=by
 intro pins s σ H Q I h;refine Subscript_ (zw (he pins s σ H _ I h) λv s1 ⟨x,H1,C,f,j⟩=>?_);refine wpAny_Slice (zw (o pins s1 σ H1 _ C j) λc s2 ⟨l,D,B,pl,i⟩=>zw (k pins s2 σ D _ B i) λa s3 ⟨u,d,z,pu,g⟩=>?_);rw[evalPart_none];refine bw ?_;have y:Inv X pins σ d { s3 with heap:=s3.heap.push { cls:=.type "slice",data:=.fields #[c,a,.none] } }:=z.kept (t':=s3.toks) λb ob q=>aa _ q
 obtain⟨T,id,hT,t,p⟩:=n pins { s3 with heap:=s3.heap.push { cls:=.type "slice",data:=.fields #[c,a,.none] } } σ d x v c a l u s3.heap.objs.size Q y f (Heap.IsSliceOf.new ..) pl pu g
 show wpAny (model X.prog X.w) X.A (subscriptTail e (.Slice lo hi none p2) v (.ref s3.heap.objs.size)) (EP X pins σ Q) X.xe { s3 with heap:=s3.heap.push { cls:=.type "slice",data:=.fields #[c,a,.none] } }
 exact tail_any (ops:=[.ref s3.heap.objs.size,v]) t hT p (by with_unfolding_all rfl)
noncomputable def gC (xs:List V)(lo h:bg):List V:=(xs.drop (HT.jk xs.length 0 lo)).take (HT.jk xs.length xs.length h-HT.jk xs.length 0 lo)
def T6 (xs:List V)(lo h:bg):(gC xs lo h).length<=xs.length:=by
 unfold gC;rw[length_take,List.length_drop];omega
def XM (K:Frag):R2:=λx y H Q=>∃a b xs ys,x=.ref a/\y=.ref b/\zP K H a xs/\zP K H b ys/\xs≠[]/\xs.length+ys.length<=sizeLine/\
 (ys=[]->Q (.ref a) H)/\(ys≠[]->∀p,H p=none->Q (.ref p) (upd H p (.tup (xs++ys))))
def Vals.nil_iff (r:Vals xs us):us=[]↔xs=[]:=by
 cases r with
 |nil=>simp|cons _ _=>simp
def NC:z7 X (binaryOp .Add) (XM X.K):=by
 intro pins s σ H x y v u Q I f e h;obtain⟨a,b,xs,ys,rfl,rfl,t,n,l,d,j,g⟩:=h;cases f;cases e;obtain⟨k,c,P,_⟩:=I.tuple t;obtain⟨i,r,p,_⟩:=I.tuple n;refine HT.O1 P p (λz=>l (c.nil_iff.mp z)) (λz=>⟨.ref a,H,I,rfl,j (r.nil_iff.mp z)⟩) (λz=>?_) (by rw[<- c.length,<- r.length];exact d)
 refine⟨.ref s.heap.objs.size,_,I.laid (t':=s.toks) (o:=.tup (xs++ys)) (λb ob q=>aa _ q) (ak _) ?_,rfl,g (λw=>z (r.nil_iff.mpr w)) _ (I.hok.fresh (ak _))⟩;exact⟨by rw[aE];exact d,_,c.append r,wA.new _ _⟩
end
noncomputable def yZ (n:Nat)(i:Int):Option Nat:=if 0<=i then(if i<n then some i.toNat else none) else if -(n:Int)<=i then some (i+n).toNat else none
def yo (xs:List α)(i:Int):Option α:=(yZ xs.length i).bind λj=>xs[j]?
def G6 {i:Int}(h:yZ n i=some j):seqIndex? i n=some j/\j<n/\-(n:Int)<=i/\i<n:=by
 unfold yZ at h
 by_cases h0:0<=i
 ·rw[af h0]at h
  by_cases h1:i<n
  ·rw[af h1]at h
   have e:i.toNat=j:=aj h;exact⟨by rw[seqIndex_of h0 h1,e],by omega,by omega,h1⟩
  ·rw[ag h1]at h;cases h
 ·rw[ag h0]at h
  by_cases h1:-(n:Int)<=i
  ·rw[af h1]at h
   have e:(i+n).toNat=j:=aj h;exact⟨by rw[seqIndex_neg (by omega) h1,e],by omega,h1,by omega⟩
  ·rw[ag h1]at h;cases h
def Yf {xs:List α}{i:Int}{v:α}(h:yo xs i=some v):∃j,seqIndex? i xs.length=some j/\xs[j]? =some v/\j<xs.length/\-(xs.length:Int)<=i/\i<xs.length:=by
 unfold yo at h;cases e:yZ xs.length i with
 |none=>rw[e]at h;cases h|some j=>
  rw[e]at h;obtain⟨c,b,a,H⟩:=G6 e;exact⟨j,c,h,b,a,H⟩
def OT {xs:List α}{v:α}(h:xs[j]? =some v):yo xs (j:Int)=some v:=by
 have H:j<xs.length:=(bx.mp h).1;have e:yZ xs.length (j:Int)=some j:=by
  unfold yZ;rw[af (by omega),af (by omega)];simp
 unfold yo;rw[e];exact h
def Xb (b:Expr):Prop:=∀o i,subscripted b false o i=operate [o,i] (getItem o i)
def kB (X:Cx)(r:R2):Prop:=
 ∀(value slice:Expr)(pins:a9)(s:Shared)(σ:St)(H:Hp)(x y:V)(v u:Value)(Q:VK),Inv X pins σ H s->RelV x v->RelV y u->r x y H Q->
  subscripted slice false v u=operate [v,u] (getItem v u)->wpAny (model X.prog X.w) X.A (subscriptTail value slice v u) (EP X pins σ Q) X.xe s
def ky (X:Cx)(id:String)(r:V->List V->Hp->VK->Prop):Prop:=
 ∀(pins:a9)(s:Shared)(σ:St)(H:Hp)(x:V)(xs:List V)(v:Value)(us:a7)(Q:VK),Inv X pins σ H s->RelV x v->Vals xs us->r x xs H Q->
  wpAny (model X.prog X.w) X.A (call (.builtin id) (v::us)) (EP X pins σ Q) X.xe s
section
variable {a b:Expr}{ta tb:TE}
def kB.or {r c:R2}(h:kB X r)(h':kB X c):kB X (λx y H Q=>r x y H Q∨c x y H Q):=by
 intro value slice pins s σ H x y v u Q I b a q d;rcases q with q|q
 ·exact h value slice pins s σ H x y v u Q I b a q d
 ·exact h' value slice pins s σ H x y v u Q I b a q d
def II {r:R2}(f:kB X r)(i:PE X a ta)(g:PE X b tb)(e:Xb b):PE X (.Subscript a b pos) (ZO r ta tb):=by
 intro pins s σ H Q I h;exact Subscript_ (QS i g I h λv u s2 x y k j d c q=>f a b pins s2 σ k x y v u Q j d c q (e _ _))
def X5 (K:Frag):R2:=λx y H Q=>∃p xs i v,x=.ref p/\y=.int i/\z8 K H p xs/\yo xs i=some v/\Q v H
def Va (K:Frag):R2:=λx y H Q=>∃p xs i v,x=.ref p/\y=.int i/\zP K H p xs/\yo xs i=some v/\Q v H
def Vf:R2:=λx y H Q=>∃z i c,x=.str z/\y=.int i/\z.length<=sizeLine/\yo z.cps.toList i=some c/\Q (.str ⟨#[c]⟩) H
def OA:kB X (X5 X.K):=by
 intro value slice pins s σ H x y v u Q I g f h e;obtain⟨p,xs,i,z,rfl,rfl,k,he,q⟩:=h;cases g;obtain⟨t,rfl⟩:=f;obtain⟨c,r,pl,B⟩:=I.list k;obtain⟨j,a,A,C,o,n⟩:=Yf he;obtain⟨w,E,b⟩:=r.get A;have l:=r.length;have hn:=gv;have fin:EP X pins σ Q w s:=⟨z,H,I,b,q⟩
 by_cases h0:0<=i
 ·have d:i.toNat=j:=by
   rw[seqIndex_of h0 n]at a;exact aj a
  exact item_listR pl.isList h0 (by omega) (by rw[d];simpa using E) fin e
 ·have d:(i+(c.toArray.size:Int)).toNat=j:=by
   rw[seqIndex_neg (by omega) o]at a
   rw[ax,<- l];exact aj a
  exact subscriptTail_builtinR (x:=w) pl.isList.typeIs slot_list_getitem.lookup
   (wpAny_getItem_list_neg (Q:=λr s'=>r=w/\EP X pins σ Q r s') pl.isList (by omega) (by rw[ax]<;>omega) (by omega) (by rw[d];simpa using E) ⟨rfl,fin⟩) e
def NP:kB X (Va X.K):=by
 intro value slice pins s σ H x y v u Q I c b h e;obtain⟨p,xs,i,z,rfl,rfl,f,he,q⟩:=h;cases c;obtain⟨t,rfl⟩:=b;obtain⟨d,r,pl,n⟩:=I.tuple f;obtain⟨j,k,g,B,A,o⟩:=Yf he;obtain⟨w,E,a⟩:=r.get g;have l:=r.length;have hn:=gv;have fin:EP X pins σ Q w s:=⟨z,H,I,a,q⟩;exact subscriptTail_builtinR (x:=w) pl.typeIs slot_tuple_getitem.lookup
  (getItem_tuple (j:=j) (Q:=λr s'=>r=w/\EP X pins σ Q r s') pl (by omega) (by omega) (by rw[ax,<- l];exact k) (by simpa using E) ⟨rfl,fin⟩) e
def Mj:kB X Vf:=by
 intro value slice pins s σ H x y v u Q I b r h d;obtain⟨z,i,c,rfl,rfl,n,he,q⟩:=h;obtain⟨t,rfl⟩:=b;obtain⟨t',rfl⟩:=r;obtain⟨j,a,g,o,f,e⟩:=Yf he;have l:z.cps.toList.length=z.length:=by simp[Str.length]
 rw[l]at a f e;have hn:=gv;exact tail_any (typeIs_str s z t) slot_str_getitem.lookup (getItem_str (c:=c) (by
  have k:decide (i < -(2 ^ 63:Int))=false:=aD (by omega)
  have E:decide (i ≥ 2 ^ 63)=false:=aD (by omega)
  rw[k,E,Bool.or_false]) (by rw[a];simpa using g) ⟨.str ⟨#[c]⟩,H,I.tok _,⟨_,rfl⟩,q⟩) d
def VE (K:Frag):R2:=λx y H Q=>X5 K x y H Q∨Va K x y H Q∨Vf x y H Q
def M8:kB X (VE X.K):=OA.or (NP.or Mj)
def Sl (i:a7)(n j:Nat)(u:Value):Obj.mapSeq (·.setIfInBounds j u) { cls:=.type "list",data:=.seq i.toArray n }={ cls:=.type "list",data:=.seq (i.set j u).toArray n }:=by
 simp[Obj.mapSeq]
theorem Inv.lst {pins:a9}{σ:St}{H:Hp}{s:Shared}{p:Addr}{xs:List V}(I:Inv X pins σ H s)(h:H p=some (.lst xs)):
  ∃(i:a7) (n:Nat),Vals xs i/\s.heap.get? p=some { cls:=.type "list",data:=.seq i.toArray n }/\xs.length<=sizeLine:=by
 obtain⟨z,i,n,r,e⟩:=I.hok p _ h;exact⟨i,n,r,e,z⟩
def Inv.lstUpd {p:Addr}{its':a7}{N:Nat}{f:Obj->Obj}(I:Inv X pins σ H s)(h:H p=some (.lst xs))
  (o:s.heap.get? p=some { cls:=.type "list",data:=.seq its.toArray n })(hf:f { cls:=.type "list",data:=.seq its.toArray n }={ cls:=.type "list",data:=.seq its'.toArray N })(r:Vals ys its')(z:ys.length<=sizeLine)(t:Nat):
  Inv X pins σ (upd H p (.lst ys)) { s with heap:=s.heap.update p f,toks:=t }:=by
 have e:(s.heap.update p f).get? p=some { cls:=.type "list",data:=.seq its'.toArray N }:=by
  rw[Heap.get?_update_self f o (by rw[hf]<;>rfl),hf]
 refine I.write (x:=p) (e:=p) (by rw[h];trivial) (.inl rfl) (λb u a q=>(Heap.get?_update_other _ _ (Ne.symm a)).trans q) ⟨_,e⟩ ?_
 exact⟨z,its',N,r,e⟩
def XJ:V->V->V->Hp->(Hp->Prop)->Prop:=λo i v H Q=>∃p xs k j,o=.ref p/\i=.int k/\H p=some (.lst xs)/\yZ xs.length k=some j/\Q (upd H p (.lst (xs.set j v)))
def set_list:QZ X XJ:=by
 intro pins s σ H o i v B C u Q I ro y x h;obtain⟨p,xs,k,j,rfl,rfl,e,A,q⟩:=h;cases ro;obtain⟨t,rfl⟩:=y;obtain⟨a,n,r,c,z⟩:=I.lst e;obtain⟨b,D,g,f⟩:=G6 A;have l:=r.length;have hn:=gv;have w:Inv X pins σ (upd H p (.lst (xs.set j v))) { s with heap:=s.heap.update p (Obj.mapSeq (·.setIfInBounds j u)) }:=
  I.lstUpd e c (Sl a n j u) (r.set x j) (by rw[List.length_set];exact z) s.toks
 by_cases h0:0<=k
 ·have d:k.toNat=j:=by
   rw[seqIndex_of h0 f]at b;exact aj b
  exact PySem.W.ki_setAt c h0 (by omega) (by rw[ax,<- l];exact f) (by rw[d];exact⟨_,w,q⟩)
 ·have d:(k+(a.toArray.size:Int)).toNat=j:=by
   rw[seqIndex_neg (by omega) g]at b
   rw[ax,<- l];exact aj b
  exact PySem.W.ki_setBack c (by omega) (by rw[ax,<- l];exact g) (by omega) (by rw[d];exact⟨_,w,q⟩)
def Th (lo H:bg)(n:Nat):(sliceBounds lo H none n).1=((HT.jk n 0 lo:Nat):Int)/\(sliceBounds lo H none n).2.1=((HT.jk n n H:Nat):Int)/\(sliceBounds lo H none n).2.2=1:=by
 refine⟨?_,?_,rfl⟩
 ·cases lo with
  |none=>simp[sliceBounds,HT.jk]|some i=>
   simp only[sliceBounds,HT.jk,getD_none,show(1:Int) > 0 by decide,if_true]
   by_cases h:i<0
   ·simp only[h,if_true]<;>omega
   ·simp only[h,if_false]<;>omega
 ·cases H with
  |none=>simp[sliceBounds,HT.jk]|some i=>
   simp only[sliceBounds,HT.jk,getD_none,show(1:Int) > 0 by decide,if_true]
   by_cases h:i<0
   ·simp only[h,if_true]<;>omega
   ·simp only[h,if_false]<;>omega
def UZ (i:a7)(lo h:bg):slicePick i.toArray lo h none=((i.drop (HT.jk i.length 0 lo)).take (HT.jk i.length i.length h-HT.jk i.length 0 lo)).toArray:=by
 obtain⟨b,a,H⟩:=Th lo h i.toArray.size;unfold slicePick;rw[b,a,H];simp only[sliceRange_one,pick_run,ax]<;>rfl
def HH (K:Frag):V->Option Int->Option Int->Hp->VK->Prop:=λx lo h H Q=>∃a xs,x=.ref a/\z8 K H a xs/\∀p,H p=none->Q (.ref p) (upd H p (.lst (gC xs lo h)))
def OI:Vu X (HH X.K):=by
 intro pins s σ H x v l u lo i S Q I c f pl pu h;obtain⟨a,xs,rfl,e,q⟩:=h;cases c;obtain⟨d,r,t,z⟩:=I.list e;have hlen:=r.length;refine⟨"list",_,slot_list_getitem.lookup,t.isList.typeIs,?_⟩;refine wpAny_getItem_list_slice t.isList f pl pu .none (by simp) ?_ (by rw[ax]<;>omega)
 rw[UZ,<- hlen];refine⟨.ref s.heap.objs.size,_,I.laid (t':=s.toks) (o:=.lst (gC xs lo i)) (λb ob q=>aa _ q) (ak _) ?_,rfl,q _ (I.hok.fresh (ak _))⟩;exact⟨aW (T6 xs lo i) z,_,0,(r.drop (HT.jk xs.length 0 lo)).take (HT.jk xs.length xs.length i-HT.jk xs.length 0 lo),ah _ rfl⟩
noncomputable def yU:V->Bool
 |.non=>true|.bl _=>true|.int _=>true|.str _=>true|_=>false
noncomputable def kC:V->V->Bool
 |.non,.non=>true|.bl a,.bl b=>a==b|.bl a,.int b=>(if a then 1 else 0)==b|.int a,.bl b=>a==(if b then 1 else 0)|.int a,.int b=>a==b|.str a,.str b=>a==b|_,_=>false
def Me {A:Around}{y x:V}{v:Value}(c:RelV y u)(r:RelV x v)(d:yU y=true)(f:yU x=true):SeqAt.EqAt A s u v (kC y x):=by
 cases y with
 |non=>
  cases c;cases x with
  |non=>cases r;exact SeqAt.EqAt.same _|bl b=>cases r;exact SeqAt.EqAt.none_bool b|int b=>obtain⟨t,rfl⟩:=r;exact SeqAt.EqAt.none_int b t|str b=>obtain⟨t,rfl⟩:=r;exact SeqAt.EqAt.none_str b t|_=>exact absurd (show false=true from f) ao
 |bl a=>
  cases c;cases x with
  |non=>cases r;exact SeqAt.EqAt.bool_none a|bl b=>cases r;exact SeqAt.EqAt.bool_bool a b|int b=>obtain⟨t,rfl⟩:=r;exact SeqAt.EqAt.bool_int a b t|str b=>obtain⟨t,rfl⟩:=r;exact SeqAt.EqAt.bool_str a b t|_=>exact absurd (show false=true from f) ao
 |int a=>
  obtain⟨t',rfl⟩:=c;cases x with
  |non=>cases r;exact SeqAt.EqAt.int_none a t'|bl b=>cases r;exact SeqAt.EqAt.int_bool a t' b|int b=>obtain⟨t,rfl⟩:=r;exact SeqAt.EqAt.int_int a t' b t|str b=>obtain⟨t,rfl⟩:=r;exact SeqAt.EqAt.int_str a t' b t|_=>exact absurd (show false=true from f) ao
 |str a=>
  obtain⟨t',rfl⟩:=c;cases x with
  |non=>cases r;exact SeqAt.EqAt.str_none a t'|bl b=>cases r;exact SeqAt.EqAt.str_bool a t' b|int b=>obtain⟨t,rfl⟩:=r;exact SeqAt.EqAt.str_int a t' b t|str b=>obtain⟨t,rfl⟩:=r;exact SeqAt.EqAt.str_str a t' b t|_=>exact absurd (show false=true from f) ao
 |_=>exact absurd (show false=true from d) ao
def kE (x:V)(u:Value):Bool:=match u with
 |.none=>kC .non x|.bool b=>kC (.bl b) x|.int i _=>kC (.int i) x|.str z _=>kC (.str z) x|_=>false
def Xx {x y:V}(r:RelV y u)(f:yU y=true):kE x u=kC y x:=by
 cases y with
 |non=>cases r;rfl|bl b=>cases r;rfl|int i=>obtain⟨t,rfl⟩:=r;rfl|str z=>obtain⟨t,rfl⟩:=r;rfl|_=>exact absurd (show false=true from f) ao
theorem Ya {x:V}:∀{xs:List V}{us:a7},Vals xs us->xs.all yU=true->us.any (kE x)=xs.any λy=>kC y x
 |_,_,.nil,_=>rfl|y::xs,u::us,.cons r t,f=>by
  rw[List.all_cons,aq]at f;rw[any_cons,any_cons,Xx r f.1,Ya t f.2]
theorem J6 {A:Around}{x:V}{v:Value}(a:RelV x v)(b:yU x=true):∀{xs:List V}{us:a7},Vals xs us->xs.all yU=true->∀u∈us,SeqAt.EqAt A s u v (kE x u)
 |_,_,.nil,_=>λu h=>by cases h|y::xs,u::us,.cons r t,f=>λU h=>by
  rw[List.all_cons,aq]at f;rcases bz.mp h with rfl|h
  ·rw[Xx r f.1];exact Me r a f.1 b
  ·exact J6 a b t f.2 U h
def Jc (x:V)(xs:List V):Bool:=xs.any λy=>kC y x
def VB (K:Frag)(neg:Bool):R2:=λx y H Q=>∃p xs,y=.ref p/\(z8 K H p xs∨zP K H p xs)/\yU x=true/\xs.all yU=true/\Q (.bl (if neg then !Jc x xs else Jc x xs)) H
def RA:z7 X (compareOp .In) (VB X.K false):=by
 intro pins s σ H x y v u Q I b c h;obtain⟨p,xs,rfl,a,f,fs,q⟩:=h;cases c;rcases a with a|a
 ·obtain⟨i,r,pl,z⟩:=I.list a
  refine SeqAt.in_listAt (kE x) pl.isList (λw hw=>J6 b f r fs w (by simpa using hw)) ⟨.bl _,H,I,rfl,?_⟩
  rw[show i.toArray.any (kE x)=i.any (kE x) by simp,Ya r fs]
  exact q
 ·obtain⟨i,r,pl,z⟩:=I.tuple a
  refine SeqAt.in_tupleAt (kE x) pl (λw hw=>J6 b f r fs w (by simpa using hw)) ⟨.bl _,H,I,rfl,?_⟩
  rw[show i.toArray.any (kE x)=i.any (kE x) by simp,Ya r fs]
  exact q
def Tn:jI X (.builtin "len") (λxs H Q=>∃p ys,xs=[.ref p]/\(z8 X.K H p ys∨zP X.K H p ys)/\Q (.int ys.length) H):=by
 intro pins s σ H xs us Q I r h;obtain⟨p,ys,rfl,a,q⟩:=h;obtain⟨u,rfl,x⟩:=vals1 r;cases x;have hn:=gv;rcases a with a|a
 ·obtain⟨i,b,pl,z⟩:=I.list a
  have hlen:=b.length;exact Calls.call_len_list pl.isList (by simp only[ax]<;>omega) ⟨.int ys.length,H,I.tok _,⟨s.toks+1,by rw[ax,hlen]⟩,q⟩
 ·obtain⟨i,b,pl,z⟩:=I.tuple a
  have hlen:=b.length;exact len_tuple pl (by simp only[ax]<;>omega) ⟨.int ys.length,H,I.tok _,⟨s.toks+1,by rw[ax,hlen]⟩,q⟩
def Uz:jI X (.type "tuple") (λxs H Q=>∃p ys,xs=[.ref p]/\((z8 X.K H p ys/\∀l,H l=none->Q (.ref l) (upd H l (.tup ys)))∨(zP X.K H p ys/\Q (.ref p) H))):=by
 intro pins s σ H xs us Q I r h;obtain⟨p,ys,rfl,h⟩:=h;obtain⟨u,rfl,x⟩:=vals1 r;cases x;rcases h with ⟨c,q⟩|⟨c,q⟩
 ·obtain⟨i,a,pl,z⟩:=I.list c
  have hlen:=a.length;refine call_tuple_list pl.isList (λh' kp=>?_) (by simp only[ax]<;>omega)
  have d:Inv X pins σ H { s with heap:=h' }:=I.kept (t':=s.toks) kp
  have f:Inv X pins σ (upd H h'.objs.size (.tup ys)) { s with heap:=h'.push { cls:=.type "tuple",data:=.seq i.toArray } }:=
   d.laid (t':=s.toks) (λb o e=>aa _ e) (ak _) (show qd X.prog X.w _ _ _ (.tup ys) from ⟨z,i,a,wA.new _ _⟩)
  exact⟨.ref h'.objs.size,_,f,rfl,q _ (d.hok.fresh (ak _))⟩
 ·obtain⟨i,a,pl,z⟩:=I.tuple c
  exact call_tuple_same pl ⟨.ref p,H,I,rfl,q⟩
def Q8 (K:Frag)(T:String)(x:V)(H:Hp):Prop:=match x with
 |.str _=>T = "str"
 |.int _=>T = "int"
 |.ref p=>(T = "list" /\ ∃xs,z8 K H p xs)∨(T = "tuple" /\ ∃o,K.lookup p=some o/\o.cls=.type "tuple" /\ o.dict=none)∨
   (T = "dict" /\ ((∃kvs,H p=some (.dK kvs))∨∃kvs,H p=some (.dT kvs)))∨(T = "set" /\ ∃S n,H p=some (.set S n))
 |_=>False
def Ln {T:String}{x:V}{v:Value}(I:Inv X pins σ H s)(r:RelV x v)(ty:Q8 X.K T x H):
  s.TypeIs v T/\∀a,v=.ref a->∃ob,s.heap.get? a=some ob/\ob.dict=none:=by
 cases x with
 |str z=>
  obtain⟨t,rfl⟩:=r;cases (show T = "str" from ty)
  exact⟨typeIs_str s z t,λ_ e=>nomatch e⟩
 |int i=>
  obtain⟨t,rfl⟩:=r;cases (show T = "int" from ty)
  exact⟨typeIs_int s i t,λ_ e=>nomatch e⟩
 |ref p=>
  cases r;rcases ty with ⟨rfl,xs,q⟩|⟨rfl,o,h,d,hd⟩|⟨rfl,h⟩|⟨rfl,S,n,h⟩
  ·obtain⟨b,_,pl,_⟩:=I.list q
   refine⟨pl.isList.typeIs,λa e=>?_⟩;cases e;obtain⟨o,n,e,c,hd,_⟩:=pl;exact⟨o,e,hd⟩
  ·refine⟨⟨o,I.kIn p o h,d⟩,λa e=>?_⟩
   cases e;exact⟨o,I.kIn _ o h,hd⟩
  ·have z:∃o,s.heap.get? p=some o/\o.ExactDict:=by
    rcases h with ⟨kvs,h⟩|⟨kvs,h⟩
    ·obtain⟨_,_,_,_,o,_,_,e,ex,_⟩:=I.hok p _ h
     exact⟨o,e,ex⟩
    ·obtain⟨_,_,_,_,o,_,_,e,ex,_⟩:=I.hok p _ h
     exact⟨o,e,ex⟩
   obtain⟨o,e,ex⟩:=z;refine⟨⟨o,e,ex.1⟩,λa E=>?_⟩;cases E;exact⟨o,e,ex.2.1⟩
  ·obtain⟨o,_,_,_,e,ex,_⟩:=I.hok p _ h
   refine⟨⟨o,e,ex.1⟩,λa E=>?_⟩;cases E;exact⟨o,e,ex.2.1⟩
 |_=>exact False.elim ty
noncomputable def HK (K:Frag)(T:String)(r:V->List V->Hp->VK->Prop)(to:TE)(t:TA):TE:=λσ H Q=>to σ H λx H1=>Q8 K T x H1/\t σ H1 λxs h=>r x xs h Q
variable {o:Expr}{to:TE}{t:TA}{name:Str}{T id:String}{r:V->List V->Hp->VK->Prop}
def XZ (p:PlainAttrs T)(slot:Slot T name id)(y:typeOf (.builtin id)=pure (.type "method_descriptor"))(hm:ky X id r)(j:PE X o to)(k:PA X (e::es) t)
  (b:attributeBase o name X.env (eval o X.env)=eval o X.env:=by rfl)
  (w:((backTo cpos (starEach (e::es) X.env)).all (λx=>!x.1)&&(backToKw cpos (keywordEach [] X.env)).all (λx=>x.1.isSome)
   && decide ((e::es).length+([]:bp).length+(if ([]:bp).isEmpty then 0 else 1)<30))=true:=by rfl)
  (a:(apos.endLine==cpos.line)=true:=by rfl)(g:starEach (e::es) X.env=(false,eval e X.env)::starEach es X.env:=by rfl)(n:(backTo cpos (starEach es X.env)).any (·.1)=false:=by rfl):
  PE X (.Call (.Attribute o name apos) (e::es) [] cpos) (HK X.K T r to t):=by
 intro pins s σ H Q I h;refine wpAny_Call_method_late b w a rfl (zw (j pins s σ H _ I h) λv s1 ⟨x,H1,i,c,ty,f⟩=>?_);obtain⟨u,l⟩:=Ln i c ty;refine⟨T,id,p,slot,y,u,l,?_⟩;have A:=k cpos pins s1 σ H1 _ i f;rw[g]at A ⊢;refine Calls.callWith_builtin (by show(false || (backTo cpos (starEach es X.env)).any (·.1))=false;rw[n]<;>rfl) (Calls.evalArgs_plain ?_)
 exact zw A λus s2 ⟨vs,B,z,d,q⟩=>hm pins s2 σ B x vs v us Q z c d q
end
def HZ (X:Cx)(id:String)(r:V->List V->Hp->VK->Prop):Prop:=
 ∀(pins:a9)(s:Shared)(σ:St)(H:Hp)(x:V)(xs:List V)(v:Value)(us:a7)(Q:VK),Inv X pins σ H s->RelV x v->Vals xs us->r x xs H Q->
  wpAny (model X.prog X.w) X.A (call (.builtin id) (v::us)) (EP X pins σ Q) X.xe s
def Vals.one {x:V}(h:Vals [x] us):∃u,us=[u]/\RelV x u:=by
 cases h with
 |cons r t=>cases t;exact⟨_,rfl,r⟩
def Vals.two {x y:V}(h:Vals [x,y] us):∃u v,us=[u,v]/\RelV x u/\RelV y v:=by
 cases h with
 |cons r t=>exact(Vals.one t).elim λv e=>⟨_,v,by rw[e.1],r,e.2⟩
theorem Vals.zero:∀{us:a7},Vals [] us->us=[]
 |_,.nil=>rfl
theorem Vals.rep (h:Vals xs us):∀k:Nat,Vals (List.replicate k xs).flatten (List.replicate k us).flatten
 |0=>.nil|k+1=>by
  rw[aO,aO,a5,a5];exact Vals.append h (Vals.rep h k)
theorem foldl_rep (i:a7):∀(k:Nat)(acc:a7),
  List.foldl (λX x=>X++x) acc.toArray (List.replicate k i.toArray)=(acc++(List.replicate k i).flatten).toArray
 |0,acc=>by simp|k+1,acc=>by
  have e:acc.toArray++i.toArray=(acc++i).toArray:=by simp
  have E:(acc++i)++(List.replicate k i).flatten=acc++(List.replicate (k+1) i).flatten:=by
   rw[aO,a5,aR]
  rw[<- E,<- foldl_rep i k (acc++i),<- e,aO,List.foldl_cons]
section
variable {l:Addr}
def Inv.lset {its':a7}{f:Array Value->Array Value}(I:Inv X pins σ H s)(c:H l=some (.lst xs))
  (e:s.heap.get? l=some { cls:=.type "list",data:=.seq its.toArray n })(hf:f its.toArray=its'.toArray)(v:Vals ys its')(h:ys.length<=sizeLine):
  Inv X pins σ (upd H l (.lst ys)) { s with heap:=s.heap.update l (Obj.mapSeq f),toks:=t' }:=by
 have q:=PySem.IsL.update e f;rw[hf]at q;refine I.write (x:=l) (e:=l) (by rw[c];exact trivial) (.inl rfl) (λB u b a=>(Heap.get?_update_other s.heap (Obj.mapSeq f) (Ne.symm b)).trans a) ⟨_,q⟩ ?_
 exact⟨h,its',_,v,q⟩
def Inv.lnew (I:Inv X pins σ H s)(v:Vals ys its)(h:ys.length<=sizeLine):
  Inv X pins σ (upd H s.heap.objs.size (.lst ys)) { s with heap:=s.heap.push { cls:=.type "list",data:=.seq its.toArray },toks:=t' }:=
 I.laid (λ_ _ q=>aa _ q) (ak _) ⟨h,its,0,v,ah _ rfl⟩
theorem Inv.fresh (I:Inv X pins σ H s):H s.heap.objs.size=none:=I.hok.fresh (ak _)
def Inv.lstM (I:Inv X pins σ H s)(h:H l=some (.lst xs)):xs.length<=sizeLine/\∃(i:a7) (n:Nat),Vals xs i/\xs.length=i.length/\s.heap.get? l=some { cls:=.type "list",data:=.seq i.toArray n }:=by
 obtain⟨z,i,n,r,e⟩:=I.hok l _ h;exact⟨z,i,n,r,r.length,e⟩
def Oh (h:n<=sizeLine):Builtin.List.listTooLong n=false:=by
 unfold Builtin.List.listTooLong;exact aD (by omega)
end
section
def OJ:V->List V->Hp->VK->Prop:=λx vs H Q=>∃l xs y,x=.ref l/\vs=[y]/\H l=some (.lst xs)/\xs.length<sizeLine/\Q .non (upd H l (.lst (xs++[y])))
def Gk:HZ X "list.append" OJ:=by
 intro pins s σ H x vs v us Q I b c h;obtain⟨l,xs,y,rfl,rfl,a,f,q⟩:=h;cases b;obtain⟨u,rfl,d⟩:=c.one;obtain⟨z,i,n,r,g,e⟩:=I.lstM a;refine call_meets F.slot_list_append ⟨_,e,rfl⟩ F.entry_list_append (F.args_list_append_2 _ _) (PySem.list_append l i.toArray n u (by rw[ax];omega)) ⟨e,?_⟩
 refine⟨.non,_,I.lset (its':=i++[u]) a e (by simp) (r.append (.cons d .nil)) ?_,rfl,q⟩
 rw[aE,List.length_singleton];omega
def Vb:R2:=λx y H Q=>∃l b xs zs,x=.ref l/\y=.ref b/\H l=some (.lst xs)/\H b=some (.lst zs)/\xs.length+zs.length<=sizeLine/\∀p,H p=none->Q (.ref p) (upd H p (.lst (xs++zs)))
def Ly:z7 X (binaryOp .Add) Vb:=by
 intro pins s σ H x y v u Q I d c h;obtain⟨l,b,xs,zs,rfl,rfl,j,B,o,q⟩:=h;cases d;cases c;obtain⟨z,a,n,r,p,e⟩:=I.lstM j;obtain⟨Z,i,N,f,g,k⟩:=I.lstM B;refine PySem.P.add_list e k ?_ (by rw[ax,ax];omega)
 have E:a.toArray++i.toArray=(a++i).toArray:=by simp
 rw[E];exact⟨.ref _,_,I.lnew (t':=s.toks) (r.append f) (by rw[aE];omega),rfl,q _ I.fresh⟩
def Vo:R2:=λx y H Q=>∃l k xs,x=.ref l/\y=.int k/\H l=some (.lst xs)/\-(2 ^ 63)<=k/\k<2 ^ 63/\xs.length * k.toNat<=sizeLine/\
 ∀p,H p=none->Q (.ref p) (upd H p (.lst (List.replicate k.toNat xs).flatten))
def len_rep (xs:List α)(k:Nat):(List.replicate k xs).flatten.length=k * xs.length:=by
 induction k with
 |zero=>simp|succ k i=>rw[aO,a5,aE,i,Nat.succ_mul,Nat.add_comm]
def Mc:z7 X (binaryOp .Mult) Vo:=by
 intro pins s σ H x y v u Q I o j h;obtain⟨l,k,xs,rfl,rfl,B,D,C,f,q⟩:=h;cases o;obtain⟨t,rfl⟩:=j;obtain⟨z,i,n,r,A,e⟩:=I.lstM B;have hlen:i.toArray.size * k.toNat<=sizeLine:=by rw[ax,<- A];exact f
 have p:¬i.toArray.size * k.toNat > (2 ^ 63-1)/8:=by
  have:(sizeLine:Nat)<=(2 ^ 63-1)/8:=by decide
  omega
 have b:¬(!Builtin.List.listFitsIndex k)=true:=by
  rw[fitsIndex_both D C];exact ao
 have g:¬Builtin.List.listTooLong (i.toArray.size * k.toNat)=true:=by
  rw[Oh hlen];exact ao
 have w:List.foldl (λd c=>d++c) #[] (List.replicate (if i.toArray.isEmpty=true then 0 else k.toNat) i.toArray)=(List.replicate k.toNat i).flatten.toArray:=by
  have f0:∀m:Nat,List.foldl (λd c=>d++c) #[] (List.replicate m i.toArray)=(List.replicate m i).flatten.toArray:=λm=>by
   have:=foldl_rep i m []
   rw[nil_append]at this;exact this
  rw[f0];cases i with
  |nil=>simp|cons a E=>rw[ag (by simp)]
 refine wpAny_binaryOp_repeat_ref (T := "list") (U := "int") (by decide) ⟨_,e,rfl⟩ (λs'=>typeIs_int s' k t) noFill_list_mul F.fills_int_mul F.slot_int_rmul repeat_list F.slot_int_index.lookup
  (call_meets F.slot_int_rmul (typeIs_int s k t) F.entry_int_rmul (F.args_int_rmul_2 _ _) (int___rmul___int_list k t l i.toArray n)
   ⟨e,rfl,⟨_,e,rfl⟩,call_meets F.slot_list_mul ⟨_,e,rfl⟩ F.entry_list_mul (F.args_list_mul_2 _ _) (AutoListH.list___mul___list_int_3 l i.toArray n k t b p g) ⟨e,?_⟩⟩)
 rw[w];exact⟨.ref _,_,I.lnew (t':=s.toks) (r.rep k.toNat) (by rw[len_rep,Nat.mul_comm];exact f),rfl,q _ I.fresh⟩
end
section
set_option maxRecDepth 100000 in
end
end L2
namespace Att
open PySem PySem.W PySem.Calls PyProof.Rows
def Ub {P:Params}:∀(ns:a6)(vs:a7),WellAll P h vs (ns.map WData.int)->IntsAre vs ns:=by
 intro ns
 induction ns with
 |nil=>
  intro vs w;rw[List.map_nil]at w;cases w;exact .nil
 |cons n ns i=>
  intro vs w;rw[aP]at w;cases w with
  |cons a b=>
   cases a;exact .cons _ _ (i _ b)
def R4 {l:OpenLaw}(hn:l.most=some n){P:Params}{args:List WData}{vals:a7}
  (H:l.row.toRowW.claim.pre args=true)(f:WellAll P h vals args):
  ∃a vs ns,vals=[Value.ref a]/\args=[WData.list (ns.map WData.int)]/\h.get? a=some { cls:=.type "list",data:=.seq vs.toArray }/\IntsAre vs ns/\ns.length<=n:=by
 have g:WShape.hasAll [] args [.list .int]=true:=(pre_splitW H).1;have i:l.pre.holds [] { args:=args }=true:=(pre_splitW H).2;obtain⟨d,r,rfl,s,p⟩:=hasAllW_cons g;obtain rfl:=hasAllW_nil p;obtain⟨xs,rfl,k⟩:=hasW_list s;obtain⟨ns,rfl⟩:=items_int k;have hlen:ns.length<=n:=by
  unfold OpenLaw.pre at i;have e:(WTm.not (.lt (.lit (.int (n:Int))) (.len (.arg 0)))).holds [] { args:=[.list (ns.map .int)] }=true:=by
   have e:=(holds_andW i).1;rw[hn]at e;exact e
  have c:=condW_of e (w_not (w_lt w_lit (w_len_list (w_arg rfl))));rw[aL]at c;refine Nat.le_of_not_lt λq=>?_;have Q:(n:Int)<((ns.length:Nat):Int):=by omega
  first
   |(rw[decide_eq_true Q]at c;exact absurd c (by decide))
   |(simp at c;omega)
 cases f with
 |cons j w=>
  cases w;cases j with
  |list o b=>exact⟨_,_,ns,rfl,rfl,o,Ub ns _ b,hlen⟩
def Rl (l:OpenLaw)(args:List WData):l.row.toRowW.claim.post args (.bool true) args=true:=
 postW_of (r:=l.row.toRowW) (X:=(true==true))
  (show WShape.has [] (.bool true) .bool=true by first|rfl|decide|simp[WShape.has,WShape.arms,WShape.armsAll])
  (show(WTm.eq .res (.lit (.bool true))).value [] { args:=args,res:=some (.bool true),after:=args }=some (.bool (true==true)) from w_eq_bool (w_res rfl) w_lit) rfl
def T9 {l:OpenLaw}{q:Program}{loose:bb}{P:World->Heap->Prop}{d:DefRec}
  (hn:l.most=some n)(e:d.params.defaults=[])
  (call:∀(w:World)(S s:Shared)(mg M:bh)(b:Addr)(o:Obj)(pm cd doc:Value)(a:Addr)(vs:a7)(ns:a6),
   Ground q loose [] XP w S mg M s.heap->P w s.heap->
   s.heap.get? b=some o->o.data=.func (docDef d.name d.params d.body d.scope pm cd doc)->s.heap.CodeRec cd d.name->mg d.name=some (.ref b)->
   s.heap.get? a=some { cls:=.type "list",data:=.seq vs.toArray }->IntsAre vs ns->ns.length<=n->s.gens=#[]->
   codeAny (model l.prog w) callerA (.call (.ref b) ⟨[.ref a],[]⟩) (λr s'=>r=.ok (.ret (.bool true))/\OldK s.heap s'.heap/\s'.os=s.os/\AllBare s'.gens) s):
  WalkO q loose XP P l.row.toRowW d [] (λf vs=>PySem.call f vs):=by
 intro w S s mg M G Y b o pm cd doc A kV p hd i D g u args vals as h y j c t;obtain rfl:A=.none:=Dflts.none D e;obtain rfl:kV=.none:=Dflts.noKw D;obtain⟨a,vs,ns,rfl,rfl,H,hints,hlen⟩:=R4 hn h c;refine enter_call (codeAny_mono (call w S s mg M b o pm cd doc a vs ns G Y p (fd_plain hd) i g H hints hlen u) λr s' k=>?_);obtain⟨rfl,z,x,v⟩:=k;exact⟨.inl ⟨.bool true,.bool true,[],rfl,λ_=>rfl,.bool true,Rl l _,λ_=>⟨List.Pairwise.nil,λ_ hm=>(nomatch hm)⟩⟩,z,x,v⟩
end Att
namespace L2
open PySem PySem.Spec PyProof.Rows
theorem Gr:∀{vs:a7}{ns:a6},IntsAre vs ns->Vals (ns.map V.int) vs
 |_,_,.nil=>.nil|_,_,.cons n t h=>.cons ⟨t,rfl⟩ (Gr h)
noncomputable abbrev Vy {K:Frag}(_:K.In h):Frag:=K
noncomputable def kf (s:Stmt):Arguments:=match s with
 |.FunctionDef _ a _ _ _ _ _ _ _ _=>a|_=>{ posonlyargs:=[],args:=[],vararg:=none,kwonlyargs:=[],kw_defaults:=[],kwarg:=none,defaults:=[] }
noncomputable def jx (s:Stmt):br:=match s with
 |.FunctionDef _ _ b _ _ _ _ _ _ _=>b|_=>[]
noncomputable def zH (s:Stmt):Scope:=match s with
 |.FunctionDef _ _ _ _ _ _ sc _ _ _=>sc|_=>{ kind:=.function,names:=[],isGenerator:=false,isCoroutine:=false }
noncomputable abbrev jS:yk:=λ_ _ _ _ _ _=>False
noncomputable abbrev E0:XK:=λ_ _ _=>False
def YY:Passes jS X E0:=λ_ _ _ _ _ _ _ h=>h.elim
structure jj (K:Frag)(x qual:Str)(st:Stmt)(f:Addr)(fd:FuncData):Prop where
 ex:∃(oc:Value) (od:bq) (kV doc pm:Value) (an:bq) (cdv ct:Value) (osl:Array (Option Value)),
  fd=fnOf x qual (kf st) (jx st) (zH st) .none kV doc pm an cdv ct/\K.lookup f=some ⟨oc,od,.func fd,osl⟩/\codeIn K cdv qual=true
 kp:keepIn K (.ref f)=true
section
variable {K:Frag}
def jj.ok {st:Stmt}{sp:Sp}(F:jj K x qual st f fd)(S:zV N ps (zH st))(len:∀vs H Q E,sp vs H Q E->vs.length=ps.length)
  (y:∀(c:Value)(A:Around)(outer:bj)(s:Shared)(H:Hp)(vs:List V)(Q:VK)(E:XK),zW k (A.deeper (envOfC qual (zH st) s.heap.objs.size f c))->sp vs H Q E->
   ∃t,jb (jA jS P w K mg base N qual (zH st) f c A outer s H E).nox (jx st) t/\t { nx:=λ_ a=>Q .non a,rt:=Q } (start N vs) H):qA P w K mg base jS (k+1) f fd ps sp:=by
 obtain⟨e,b,kV,doc,pm,an,c,ct,o,rfl,lk,d⟩:=F.ex;refine Qz lk d S len λA outer s H vs Q E r p=>?_;obtain⟨t,h,q⟩:=y c A outer s H vs Q E r p;exact⟨t,h.nox,q⟩
def jj.binds {st:Stmt}(F:jj K x qual st f fd)
  (h:∀(kV doc pm:Value)(an:bq)(c ct:Value)(us:a7),us.length=ps.length->bindArgs (fnOf x qual (kf st) (jx st) (zH st) .none kV doc pm an c ct) ⟨us,[]⟩=pure (ps.zip us)):Binds K fd ps []:=by
 obtain⟨a,d,kV,doc,pm,an,c,ct,o,rfl,lk,H⟩:=F.ex;exact .all (h kV doc pm an c ct)
def XB {st:Stmt}{a:Value}{o an:bq}{kV doc pm C ct:Value}(l:K.lookup f=some ⟨a,o,.func (fnOf x qual (kf st) (jx st) (zH st) .none kV doc pm an C ct),osl⟩)
  (c:codeIn K C qual=true)(k:keepIn K (.ref f)=true):jj K x qual st f (fnOf x qual (kf st) (jx st) (zH st) .none kV doc pm an C ct):=⟨⟨a,o,kV,doc,pm,an,C,ct,osl,rfl,l,c⟩,k⟩
end
section
variable {κ:Type}[DecidableEq κ]
noncomputable def jW (kvs:List (κ×V))(k:κ):Option V:=(kvs.find? λK=>decide (K.1=k)).map (·.2)
noncomputable def putK (kvs:List (κ×V))(k:κ)(v:V):List (κ×V):=
 if (kvs.any λK=>decide (K.1=k))=true then kvs.map (λK=>if K.1=k then(K.1,v) else K) else kvs++[(k,v)]
def JX {p:κ×V}{r:List (κ×V)}{k:κ}(e:p.1=k):jW (p::r) k=some p.2:=by simp[jW,find?_cons,e]
def J2 {p:κ×V}{r:List (κ×V)}{k:κ}(e:¬p.1=k):jW (p::r) k=jW r k:=by simp[jW,find?_cons,e]
theorem GO (k:κ):∀kvs:List (κ×V),(kvs.any λK=>decide (K.1=k))=(jW kvs k).isSome
 |[]=>rfl|p::r=>by
  rw[any_cons]
  by_cases e:p.1=k
  ·simp only[JX e,decide_eq_true e,Bool.true_or,isSome_some]
  ·rw[J2 e,aD e,Bool.false_or];exact GO k r
def TC (kvs:List (κ×V))(k:κ)(v:V):(putK kvs k v).length<=kvs.length+1:=by
 unfold putK
 split
 ·rw[aL];omega
 ·rw[aE,aU,List.length_nil];omega
def Pz {kvs:List (κ×V)}{k:κ}(v:V)(h:jW kvs k=none):putK kvs k v=kvs++[(k,v)]:=by
 unfold putK;rw[GO,h];exact ag (by decide)
def KV.val {kvs:List (κ×V)}{vs:List (κ×Value)}(r:KV kvs vs)(k:κ):yA (jW kvs k) (valueAt vs k):=by
 unfold KV at r
 induction r with
 |nil=>exact True.intro|@cons p q ps Q h t i=>
  obtain⟨H,a⟩:=h
  by_cases e:p.1=k
  ·have E:q.1=k:=H.symm.trans e
   have b:valueAt (q::Q) k=some q.2:=by simp[valueAt,find?_cons,E]
   rw[JX e,b];exact a
  ·have E:¬q.1=k:=λz=>e (H.trans z)
   have b:valueAt (q::Q) k=valueAt Q k:=by simp[valueAt,find?_cons,E]
   rw[J2 e,b];exact i
theorem KV.any {kvs:List (κ×V)}{vs:List (κ×Value)}(r:KV kvs vs)(k:κ):(kvs.any λK=>decide (K.1=k))=vs.any λK=>decide (K.1=k):=by
 unfold KV at r
 induction r with
 |nil=>rfl|cons h t i=>rw[any_cons,any_cons,i,h.1]
def KV.repl {kvs:List (κ×V)}{vs:List (κ×Value)}(r:KV kvs vs)(k:κ){y:V}(a:RelV y u):
  KV (kvs.map λK=>if K.1=k then(K.1,y) else K) (vs.map λK=>if K.1=k then(K.1,u) else K):=by
 unfold KV at r ⊢
 induction r with
 |nil=>exact .nil|@cons p q ps Q h t i=>
  rw[aP,aP];refine .cons ?_ i;obtain⟨H,b⟩:=h
  by_cases e:p.1=k
  ·rw[af e,af (H.symm.trans e)];exact⟨H,a⟩
  ·rw[ag e,ag (λz=>e (H.trans z))];exact⟨H,b⟩
def KV.put {kvs:List (κ×V)}{vs:List (κ×Value)}(r:KV kvs vs)(k:κ){y:V}(a:RelV y u):KV (putK kvs k y) (stored vs k u):=by
 unfold putK stored;rw[r.any k]
 by_cases e:(vs.any λK=>decide (K.1=k))=true
 ·rw[af e,af e];exact r.repl k a
 ·rw[ag e,ag e];exact Paired.snoc r ⟨rfl,a⟩
theorem KV.length {kvs:List (κ×V)}{vs:List (κ×Value)}(r:KV kvs vs):kvs.length=vs.length:=Paired.length r
end
def Ip {k:Key}(r:RelV (kV k) u):(jU P w).is k u=true:=by
 cases k with
 |inl i=>obtain⟨t,e⟩:=(show ∃t,u=Value.int i t from r);subst e;exact T7 P w i t|inr x=>obtain⟨t,e⟩:=(show ∃t,u=Value.str x t from r);subst e;exact TZ P w x t
section
def Il {u:HO}(ok:z9 P w H h)(e:Rd H a u):qd P w H h a u:=e.ok ok
def Ir (ok:z9 P w H h)(e:Rd H a (.dK kvs)):kvs.length<=sizeLine/\(a==sysModules)=false/\∃vs,KV kvs vs/\h.DictOf (jU P w) a vs:=
 show qd P w H h a (.dK kvs) from Il ok e
def XU (ok:z9 P w H h)(e:H a=some (.dK kvs)):kvs.length<=sizeLine/\(a==sysModules)=false/\∃vs,KV kvs vs/\h.DictOf (jU P w) a vs:=Ir ok (.inl e)
end
section
def Inv.big (I:Inv X pins σ H s):sysModules<s.heap.objs.size:=by
 have h:mainGlobals<s.heap.objs.size:=(I.mod.glob.keeps I.bk).lt;exact lt_trans (by decide) h
def Nf {h':Heap}{ob:HO}(I:Inv X pins σ H s)(M:ZK (H a))(h:Heap.SameBut a s.heap h')(he:∃q,h'.get? a=some q)(new:qd X.prog X.w (upd H a ob) h' a ob):
  Inv X pins σ (upd H a ob) { s with heap:=h',toks:=t' }:=
 I.write (x:=a) (e:=a) M (.inl rfl) (λb q c z=>(h.2 b c).trans z) he new
def N6 {H:Hp}{h':Heap}{vs:List (Key×Value)}(z:kvs.length<=sizeLine)(hd:(a==sysModules)=false)(rel:KV kvs vs)(dd:h'.DictOf (jU P w) a vs):
  qd P w H h' a (.dK kvs):=⟨z,hd,vs,rel,dd⟩
end
def PQ (h:Heap)(b:sysModules<h.objs.size):qd P w H (h.push { cls:=.type "dict",data:=.dict #[] }) h.objs.size (.dK []):=
 ⟨Nat.zero_le _,beq_eq_false_iff_ne.mpr (Ne.symm (az b)),[],.nil,Heap.DictOf.new h⟩
def MH:TE:=λ_ H Q=>∀p,H p=none->Q (.ref p) (upd H p (.dK []))
section
def PL:PE X (.Dict [] [] pos) MH:=λpins s σ H Q I h=>
 wpAny_Dict_empty ⟨.ref s.heap.objs.size,_,I.laid (a:=s.heap.objs.size) (o:=.dK []) (t':=s.toks) (λ_ _ q=>aa _ q) (ak _) (PQ s.heap I.big),rfl,h _ (I.hok.fresh (ak _))⟩
end
noncomputable def jn (env:Env):List (Str×NameKind)->List (Str×Addr)->List (Str×Addr)
 |[],acc=>acc|(n,k)::r,acc=>jn env r (if k==.free then(n,(env.cells.lookup n).getD 0)::acc else acc)
def P0 (f:Str×NameKind->List (Str×Addr)->Sem (ForInStep (bo)))
  (hf:∀n k r,f (n,k) r=if (k==NameKind.free)=true then(do let c <- cellOf env n;pure (ForInStep.yield ((n,c)::r))) else pure (ForInStep.yield r)):
  ∀(names:List (Str×NameKind))(acc:bo),(∀y∈names,y.2=.free->∃c,env.cells.lookup y.1=some c)->(forIn names acc f:Sem (bo))=pure (jn env names acc):=by
 intro names
 induction names with
 |nil=>intro acc _;rfl|cons y r i=>
  intro acc b;obtain⟨n,k⟩:=y;rw[forIn_cons,hf];unfold jn;have h:=i (if k==.free then(n,(env.cells.lookup n).getD 0)::acc else acc) (λy g=>b y (av _ g))
  by_cases a:k=.free
  ·subst a
   obtain⟨c,d⟩:=b (n,.free) aA rfl;have e:cellOf env n=pure c:=by unfold cellOf;rw[d]
   have H:List.lookup n env.cells=some c:=d;simp only[e,H,Option.getD_some,beq_self_eq_true,if_true]at h ⊢;exact h
  ·have j:(k==NameKind.free)=false:=by simpa using a
   simp only[j,Bool.false_eq_true,if_false]at h ⊢;exact h
def WZ (h:∀y∈scope.names,y.2=.free->∃c,env.cells.lookup y.1=some c):closureFor scope env=pure (jn env scope.names []):=by
 unfold closureFor;dsimp only;rw[P0 _ (λn k r=>rfl) scope.names [] h]
 rfl
theorem wa {n:Str}:∀(names:List (Str×NameKind))(acc:bo),(n,c)∈jn env names acc->(n,c)∈acc∨((n,NameKind.free)∈names/\c=(env.cells.lookup n).getD 0)
 |[],acc,h=>.inl h|(x,k)::r,acc,h=>by
  unfold jn at h;rcases wa r _ h with h|⟨d,a⟩
  ·by_cases H:k=.free
   ·subst H
    simp only[beq_self_eq_true,if_true]at h;rcases bz.mp h with e|h
    ·cases e;exact .inr ⟨aA,rfl⟩
    ·exact .inl h
   ·have b:(k==NameKind.free)=false:=by simpa using H
    simp only[b,Bool.false_eq_true,if_false]at h;exact .inl h
  ·exact .inr ⟨av _ d,a⟩
theorem Z0 {n:Str}:∀(names:List (Str×NameKind))(acc:bo),((n,NameKind.free)∈names∨(acc.lookup n).isSome=true)->((jn env names acc).lookup n).isSome=true
 |[],acc,h=>by
  rcases h with h|h
  ·cases h
  ·exact h
 |(x,k)::r,acc,h=>by
  unfold jn;refine Z0 r _ ?_;rcases h with h|h
  ·rcases bz.mp h with e|h
   ·cases e
    right
    simp
   ·exact .inl h
  ·right
   by_cases H:(k==NameKind.free)=true
   ·rw[af H,lookup_cons]
    cases a:n==x
    ·exact h
    ·rfl
   ·rw[ag H];exact h
theorem Jx {n:Str}:∀(names:List (Str×NameKind))(k:Nat)(acc:bo),(n,c)∈cellsFrom k names acc->(n,c)∈acc∨(k<=c/\(n,NameKind.cell)∈names)
 |[],_,_,h=>.inl h|(x,q)::r,k,acc,h=>by
  unfold cellsFrom at h
  by_cases a:(q==NameKind.cell)=true
  ·rw[af a]at h
   have H:q=.cell:=by simpa using a
   rcases Jx r _ _ h with h|⟨d,b⟩
   ·rcases bz.mp h with e|h
    ·cases e;subst H;exact .inr ⟨ak _,aA⟩
    ·exact .inl h
   ·exact .inr ⟨by omega,av _ b⟩
  ·rw[ag a]at h
   rcases Jx r _ _ h with h|⟨d,b⟩
   ·exact .inl h
   ·exact .inr ⟨d,av _ b⟩
theorem Jw:∀(names:List (Str×NameKind))(k:Nat)(acc:bo),(∀n c,(n,c)∈acc->c<k)->(∀n N c,(n,c)∈acc->(N,c)∈acc->n=N)->∀n N c,(n,c)∈cellsFrom k names acc->(N,c)∈cellsFrom k names acc->n=N
 |[],_,_,_,hi,n,N,c,h,h'=>hi n N c h h'|(x,q)::r,k,acc,l,hi,n,N,c,h,h'=>by
  unfold cellsFrom at h h'
  by_cases a:(q==NameKind.cell)=true
  ·rw[af a]at h h'
   refine Jw r (k+1) ((x,k)::acc) (λm d hm=>?_) (λm M d hm H=>?_) n N c h h'
   ·rcases bz.mp hm with e|hm
    ·cases e;exact aV _
    ·exact aY (l m d hm)
   ·rcases bz.mp hm with e|hm
    ·rcases bz.mp H with E|H
     ·cases e;cases E;rfl
     ·cases e;exact absurd (l M _ H) (aB _)
    ·rcases bz.mp H with E|H
     ·cases E;exact absurd (l m _ hm) (aB _)
     ·exact hi m M d hm H
  ·rw[ag a]at h h'
   exact Jw r k acc l hi n N c h h'
theorem Jt {n:Str}:∀(names:List (Str×NameKind))(h:Heap)(acc:bo),(n,c)∈cellsFrom h.objs.size names acc->(n,c)∈acc∨(pushCells h names).IsCell c none
 |[],_,_,q=>.inl q|(x,k)::r,h,acc,q=>by
  unfold cellsFrom at q;unfold pushCells
  by_cases H:(k==NameKind.cell)=true
  ·rw[af H]at q ⊢
   have:=Jt r (h.push { cls:=.type "cell",data:=.cell none }) ((x,h.objs.size)::acc) (by rw[aN];exact q)
   rcases this with z|z
   ·rcases bz.mp z with e|z
    ·cases e
     exact .inr ⟨_,pushCells_keeps r _ _ _ (ah _ rfl),rfl⟩
    ·exact .inl z
   ·exact .inr z
  ·rw[ag H]at q ⊢
   exact Jt r h acc q
def VW {A:Around}{globals:Addr}{cl:bo}{Q:Env->Shared->Prop}
  (h:Q { scope,locals:=s.heap.objs.size,globals,cells:=cellsFrom (s.heap.objs.size+1) scope.names cl,qual,func:=none,code:=env.code,frame:=env.frame,builtins:=env.builtins }
   { s with heap:=pushCells (s.heap.push { cls:=.type "dict",data:=.dict #[] }) scope.names }):
  wpAny M A (newFunctionEnv scope globals cl [] qual none .none (some env)) Q E s:=by
 simp only[newFunctionEnv,isSome_some,if_true];refine bt (wpAny_alloc ?_);refine bt (wpAny_layCells _ (λname kind cells=>by cases H:kind==NameKind.cell<;>simp[H]) _ _ _ _ ?_)
 rw[show({ s with heap:=s.heap.push { cls:=.type "dict",data:=.dict #[] } }:Shared).heap.objs.size=s.heap.objs.size+1 from aN ..]
 rw[forIn_nil];exact bt (bw (bw h))
def qt (X:Cx)(N:bb)(scope:Scope)(s:Shared)(H:Hp)(fp:a8)(xe:bc):Cx where
 prog:=X.prog
 w:=X.w
 K:=X.K
 mg:=X.mg
 base:=X.base
 A:=X.A
 N:=N
 s0:=s
 H0:=H
 env:={ scope:=relabel scope X.env,locals:=s.heap.objs.size,globals:=X.env.globals,cells:=cellsFrom (s.heap.objs.size+1) scope.names (jn X.env scope.names []),qual:=X.env.qual,func:=none,code:=X.env.code,frame:=X.env.frame,builtins:=X.env.builtins }
 outer:=X.stack
 stack:=X.stack
 ex:=fp
 fn:=λx=>scope.names.lookup x==some .local || scope.names.lookup x==some .cell
 calm:=X.calm
 pn:=[]
 xe:=xe
structure yL (X:Cx)(scope:Scope):Prop where
 kind:scope.kind=.function
 nd:(scope.names.map (·.1)).Nodup
 free:∀y∈scope.names,y.2=.free->X.env.kindOf y.1=some .cell∨X.env.kindOf y.1=some .free
theorem w5 {k:α}:∀{l:List (Str×α)},(l.map (·.1)).Nodup->(x,k)∈l->l.lookup x=some k
 |(y,q)::r,nd,h=>by
  rw[aP,List.nodup_cons]at nd;rw[lookup_cons];rcases bz.mp h with e|h
  ·cases e;simp
  ·have ne:(x==y)=false:=by
    rw[beq_eq_false_iff_ne];intro e
    apply nd.1
    rw[<- e];exact List.mem_map_of_mem (f:=(·.1)) h
   rw[ne];exact w5 nd.2 h
def Jq {k:NameKind}(h:(relabel scope env).names.lookup x=some k):scope.names.lookup x=some k∨(k=.cell/\scope.names.lookup x=some .free/\env.kindOf x=some .cell):=by
 unfold relabel at h;dsimp only at h;generalize scope.names=names at h ⊢
 induction names with
 |nil=>cases h|cons y r i=>
  obtain⟨n,q⟩:=y;rw[aP]at h;have split:(if (q==NameKind.free&&env.scope.kind==.function&&env.kindOf n==some .cell)=true then(n,NameKind.cell) else(n,q)).1=n:=by split<;>rfl
  rw[lookup_cons]at h ⊢;dsimp only at h;rw[split]at h;cases a:x==n with
  |false=>rw[a]at h;exact i h|true=>
   rw[a]at h;have e:x=n:=au.mp a;subst e
   by_cases H:(q==NameKind.free&&env.scope.kind==.function&&env.kindOf x==some .cell)=true
   ·rw[af H]at h
    simp only[aq,au]at H;cases h
    right
    exact⟨rfl,by rw[H.1.1],H.2⟩
   ·rw[ag H]at h
    left
    exact h
section
def Inv.capt (I:Inv X pins σ H s)(S:yL X scope)(h:(x,NameKind.free)∈scope.names):∃c,X.env.cells.lookup x=some c:=I.ok.has x (S.free _ h rfl)
def Zb (I:Inv X pins σ H s)(S:yL X scope)(h:(x,c)∈cellsFrom (s.heap.objs.size+1) scope.names (jn X.env scope.names [])):
  ((x,NameKind.free)∈scope.names/\X.env.cells.lookup x=some c/\c<s.heap.objs.size)∨((x,NameKind.cell)∈scope.names/\s.heap.objs.size<c/\∀h0:Heap,h0.objs.size=s.heap.objs.size+1->(pushCells h0 scope.names).IsCell c none):=by
 rcases Jx _ _ _ h with b|⟨b,d⟩
 ·left
  rcases wa _ _ b with z|⟨z,e⟩
  ·cases z
  ·obtain⟨C,a⟩:=I.capt S z
   rw[a]at e;have E:c=C:=e;subst E;obtain⟨v,q⟩:=I.cell x c a;exact⟨z,a,q.lt⟩
 ·right
  refine⟨d,b,λh0 f=>?_⟩;have h':=h;rw[<- f]at h';rcases Jt _ h0 _ h' with z|z
  ·exfalso
   rcases wa _ _ z with z|⟨z,e⟩
   ·cases z
   ·obtain⟨C,a⟩:=I.capt S z
    rw[a]at e;have E:c=C:=e;subst E;obtain⟨v,q⟩:=I.cell x c a;exact aB _ (ar (aY q.lt) b)
  ·exact z
def Pd {xe:bc}{f:St}(I:Inv X pins σ H s)(S:yL X scope)(hf:∀b∈fp,jN X pins H b)(A:∀b∈fp,b<s.heap.objs.size)(hl:f.length=N.length)
  (hs:∀(j:Nat)(x:Str)(v:V),N[j]? =some x->f[j]? =some (some v)->(x,NameKind.free)∈scope.names/\∃i:Nat,X.N[i]? =some x/\σ[i]? =some (some v)):
  Inv (qt X N scope s H fp xe) [] f H { s with heap:=pushCells (s.heap.push { cls:=.type "dict",data:=.dict #[] }) scope.names }:=by
 have M:∀b o,s.heap.get? b=some o->(pushCells (s.heap.push { cls:=.type "dict",data:=.dict #[] }) scope.names).get? b=some o:=λb o e=>pushCells_keeps _ _ _ _ (aa _ e);have T:(s.heap.push { cls:=.type "dict",data:=.dict #[] }).objs.size=s.heap.objs.size+1:=aN ..;have l:∀{x:Str}{c:Addr},(qt X N scope s H fp xe).env.cells.lookup x=some c->(x,c)∈cellsFrom (s.heap.objs.size+1) scope.names (jn X.env scope.names []):=λh=>PySem.mem_of_lookup h;have L:∀{x:Str},((qt X N scope s H fp xe).env.kindOf x=some .cell∨(qt X N scope s H fp xe).env.kindOf x=some .free)->∃c,(qt X N scope s H fp xe).env.cells.lookup x=some c:=λ {x} h=>by
  refine Option.isSome_iff_exists.mp (cellsFrom_some _ _ _ ?_);have two:scope.names.lookup x=some .cell∨scope.names.lookup x=some .free:=by
   rcases h with h|h
   ·rcases Jq h with z|⟨_,z,_⟩
    ·exact .inl z
    ·exact .inr z
   ·rcases Jq h with z|⟨z,_⟩
    ·exact .inr z
    ·cases z
  rcases two with z|z
  ·exact .inl z
  ·exact .inr (Z0 _ _ (.inl (PySem.mem_of_lookup z)))
 have exP:∀b∈fp,∀x c,(qt X N scope s H fp xe).env.cells.lookup x=some c->c≠b:=λb a x c e=>by
  rcases Zb I S (l e) with ⟨_,q,_⟩|⟨_,q,_⟩
  ·exact(hf b a).2.2.2.2.1 x c q
  ·intro z;subst z;exact aB _ (lt_trans q (A _ a))
 refine⟨⟨I.ok.mod,S.kind,I.ok.glob,I.ok.blt,ak _,λx y c h1 J=>?_,λx h=>L h,λx c g h=>?_,I.ok.hd,I.ok.frames,.inl rfl,λb a=>⟨?_,exP b a⟩,I.bs,aW I.ok.bsz I.sz,λb o e a=>?_,λb a z=>?_,I.stack,I.stkFree⟩,
  rfl,I.bare,Un.kept M,⟨λ_=>none,?_,λj x v h1 J h3=>?_⟩,λx c e=>?_,I.fresh,λx c e=>?_,λp hp=>?_,I.hok.kept M,hl⟩
 ·refine Jw _ _ _ (λn c h=>?_) (λn n' c h h'=>?_) x y c (l h1) (l J)
  ·rcases wa _ _ h with z|⟨z,e⟩
   ·cases z
   ·obtain⟨c',D⟩:=I.capt S z
    rw[D]at e;have P:c=c':=e;subst P;obtain⟨v,q⟩:=I.cell n c D;exact aY q.lt
  ·rcases wa _ _ h with z|⟨z,e⟩
   ·cases z
   ·rcases wa _ _ h' with Z|⟨Z,P⟩
    ·cases Z
    ·obtain⟨d,hd⟩:=I.capt S z
     obtain⟨d',B⟩:=I.capt S Z;rw[hd]at e;rw[B]at P;have K:c=d:=e;have e2:c=d':=P;subst K;subst e2;exact I.ok.inj _ _ _ hd B
 ·rcases Zb I S (l h) with ⟨z,_,_⟩|⟨_,z,_⟩
  ·exfalso
   have K:=w5 S.nd z;have t:(scope.names.lookup x==some .local || scope.names.lookup x==some .cell)=true:=g;rw[K]at t;cases t
  ·exact le_of_lt z
 ·exact az (A b a)
 ·obtain⟨_,_,_,E,_⟩:=hf b a
  rcases E with E|E
  ·exact I.ok.noex b o e E
  ·exact absurd (ar (aw e) (aW I.ok.bsz E)) (aB _)
 ·obtain⟨_,J,h3,_⟩:=hf b a
  rcases bz.mp (I.stkSub b z) with e|e
  ·exact J e
  ·exact h3 e
 ·exact(Heap.Ns.new s.heap (.type "dict")).keeps (pushCells_keeps _ _)
 ·obtain⟨g,i,K,e2⟩:=hs j x v h1 J
  obtain⟨m,hn,Y⟩:=I.loc;have Q:gL X.env.scope x:=.inr (S.free _ g rfl);obtain⟨u,r,lk⟩:=Y i x v K e2 Q;refine⟨u,r,.inr ?_⟩;have w:(qt X N scope s H fp xe).env.kindOf x=some .cell∨(qt X N scope s H fp xe).env.kindOf x=some .free:=by
   rcases h3 with z|z|z
   ·exfalso
    rcases Jq z with Z|⟨Z,_⟩
    ·rw[w5 S.nd g]at Z;cases Z
    ·cases Z
   ·exact .inl z
   ·exact .inr z
  refine⟨w,?_⟩;obtain⟨c,D⟩:=L w;refine⟨c,D,?_⟩;rcases Zb I S (l D) with ⟨_,q,_⟩|⟨q,_,_⟩
  ·rcases lk with ⟨z,_⟩|⟨_,c',C,cell⟩
   ·exfalso
    rcases S.free _ g rfl with k|k<;>(rw[k]at z;cases z)
   ·rw[q]at C;cases C
    exact cell.keeps M
  ·exfalso
   have a1:=w5 S.nd g;have a2:=w5 S.nd q;rw[a1]at a2;cases a2
 ·rcases Zb I S (l e) with ⟨_,q,_⟩|⟨_,_,q⟩
  ·obtain⟨v,z⟩:=I.cell x c q
   exact⟨v,z.keeps M⟩
  ·exact⟨_,q _ T⟩
 ·rcases Zb I S (l e) with ⟨_,q,_⟩|⟨_,q,_⟩
  ·exact I.freeC x c q
  ·exact I.hok.fresh (le_of_lt q)
 ·have U:p∈([]:a9):=hp
  cases U
end
abbrev yd:=Addr->St->Hp->(St->Hp->Prop)->Prop
noncomputable def Zs (elt:Expr)(gens:List Comprehension)(sc:Scope)(pos:Pos)(d:Nat)(acc:Value)(env:Env)(k:Sem Fin):Sem Fin:=
 match gens[d+1]? with
 |some g'=>do
  let x <- eval g'.iter env
  standAt g'.iter.pos
  let x <- foldedSetIterable g'.iter env x
  let _ <- runOwn (.compStart (.ListComp elt gens sc pos) (d+1) (<- holding [x] (pyIter x)) acc env) env
  k
 |none=>do
  (do let _ <- call (.builtin "list.append") [acc,<- eval elt env])
  k
theorem Nk {iter:Expr}{d:Nat}{it acc:Value}(h:gens[d]? =some ⟨tg,iter,ifs,0⟩)(H:∀g',gens[d+1]? =some g'->g'.is_async=0):
  compTurn (.ListComp elt gens sc pos) d it acc env=(do
   standAt iter.pos
   match <- pyNext it with
   |none=>pure (.done .next)|some v=>
    letOwnedTupleGo tg it v
    assign tg env v
    let mut ok:=true
    for c in ifs do
     if ok then ok <- isTrue c env (eval c env)
    if ok then Zs elt gens sc pos d acc env (again (.compLoop (.ListComp elt gens sc pos) d it acc env))
    else again (.compLoop (.ListComp elt gens sc pos) d it acc env)):=by
 unfold compTurn Zs;dsimp only;rw[h];cases hn:gens[d+1]? with
 |none=>rfl|some g'=>
  obtain⟨t',i,f,a⟩:=g';have e:a=0:=H _ hn;subst e
  rfl
def km (X:Cx)(ifs:bf)(t:TT):Prop:=
 ∀(pins:a9)(s:Shared)(σ:St)(H:Hp)(Q:Bool->Hp->Prop),Inv X pins σ H s->t σ H Q->
  wpAny (model X.prog X.w) X.A (forIn ifs true λc r=>if r=true then do let ok <- isTrue c X.env (eval c X.env);pure (ForInStep.yield ok) else pure (ForInStep.yield r)) (TP X pins σ Q) X.xe s
noncomputable def IU:TT:=λ_ H Q=>Q true H
def Od:km X [] IU:=λpins s σ H Q I h=>wpAny_tests_nil ⟨H,I,h⟩
def P7 {c:Expr}{t:TT}(h:PT X c t):km X [c] t:=λpins s σ H Q I hw=>wpAny_tests_one (h pins s σ H Q I hw)
def j3 (X:Cx)(elt:Expr)(gens:List Comprehension)(sc:Scope)(pos:Pos)(d:Nat)(t:yd):Prop:=
 ∀(pins:a9)(s:Shared)(σ:St)(H:Hp)(D:Addr)(Q:St->Hp->Prop)(k:Sem Fin)(Q':Fin->Shared->Prop)(E:bc),Inv X pins σ H s->t D σ H Q->
  (∀s' a h,Inv X pins a h s'->Q a h->wpAny (model X.prog X.w) X.A k Q' E s')->wpAny (model X.prog X.w) X.A (Zs elt gens sc pos d (.ref D) X.env k) Q' E s
def L1 (t:TE):yd:=λD σ H Q=>t σ H λy H1=>∃ys,H1 D=some (.lst ys)/\ys.length<sizeLine/\Q σ (upd H1 D (.lst (ys++[y])))
def Zm (J:It)(g:TG)(ti:TT)(tm:yd):yd:=λD σ H Q=>∃W:Nat->Nat->St->Hp->Prop,(∃m,W 0 m σ H)/\∀i m σ H,W i m σ H->
 (J.stop i H/\Q σ H)∨(J.go i H/\∃N:St->Hp->Prop,(∀c h,N c h->∃M,M<m/\W (i+1) M c h)/\∀x h,J.yld i H x h->g x σ h λa H1=>ti a H1 λb d=>if b=true then tm D a d N else N a d)
def LQ (w:TI)(g:TG)(ti:TT)(tm:yd):yd:=λD σ H Q=>w σ H λJ H1=>Zm J g ti tm D σ H1 Q
section
variable {iter:Expr}{d:Nat}
def gr (h:∀e s,X.xe e s->False){t:Sem α}{Q':α->Shared->Prop}(H:wpAny (model X.prog X.w) X.A t Q' X.xe s'):wpAny (model X.prog X.w) X.A t Q' E s':=
 wpAny_mono H (λ_ _ z=>z) λe s' z=>(h e s' z).elim
def Pu {t:TE}(x:∀e s,X.xe e s->False)(he:PE X elt t)(g:gens[d+1]? =none):j3 X elt gens sc pos d (L1 t):=by
 intro pins s σ H D Q k Q' E I h b;unfold Zs;rw[g];refine bt (bt (gr x (zw (he pins s σ H _ I h) λu s1 ⟨y,H1,f,r,ys,c,z,a⟩=>?_)));refine bt (gr x (zw (Gk pins s1 σ H1 (.ref D) [y] (.ref D) [u] (λ_ l=>Q σ l) f rfl (.cons r .nil) ⟨D,ys,y,rfl,rfl,c,z,a⟩) λ_ s2 ⟨_,j,i,_,q⟩=>?_));exact bw (b s2 σ j i q)
def OX {g:TG}{ti:TT}{tm:yd}(Y:∀e s,X.xe e s->False)(Z:X.calm=true)(hg:gens[d]? =some ⟨tg,iter,ifs,0⟩)(ha:∀g',gens[d+1]? =some g'->g'.is_async=0)(M:PG X tg g)(hi:km X ifs ti)(hm:j3 X elt gens sc pos d tm)
  {Q:St->Hp->Prop}{J:It}{it:Addr}{B:Nat->Heap->Prop}(T:Turn X.prog X.w X.K tg J fp it B)(I:Inv X pins σ H s)(st:B 0 s.heap)(hf:∀b∈fp,jN X pins H b)
  (h:Zm J g ti tm D σ H Q){R:Result->Shared->Prop}(hR:∀s' a c,Inv X pins a c s'->Q a c->R (.ok .next) s'):
  codeAny (model X.prog X.w) X.A (.compLoop (.ListComp elt gens sc pos) d (.ref it) (.ref D) X.env) R s:=by
 obtain⟨W,⟨m0,w0⟩,turn⟩:=h;have S:∀{c:Hp},(∀b∈fp,c b=none)->∀b∈fp,jN X pins c b:=λhn b k=>⟨hn b k,(hf b k).2⟩;refine codeAny_loop rfl (λn s'=>∃i a c,Inv X pins a c s'/\B i s'.heap/\(∀b∈fp,c b=none)/\W i n a c) (λn s3 hI=>?_) m0 ⟨0,σ,H,I,st,λb k=>(hf b k).1,w0⟩;show wpAny _ X.A ((compTurn (.ListComp elt gens sc pos) d (.ref it) (.ref D) X.env).onRaise (λx=>do noteFrame x X.env;theTreesLotGoes x)) _ _ s3
 refine wpAny_noted ?_;rw[Nk hg ha];refine bt (wpAny_standAt ?_);obtain⟨i,j,C,I3,y,z,w3⟩:=hI;rcases turn i n j C w3 with ⟨stop,qn⟩|⟨go,N,hN,step⟩
 ·refine bt (zw (T.done X rfl rfl rfl Z i pins s3 j C _ I3 (S z) y stop) λr s4 ⟨L,I4⟩=>?_)
  subst L;exact bw (hR s4 j C I4 qn)
 ·refine bt (zw (T.item X rfl rfl rfl Z i pins s3 j C _ I3 (S z) y go) λr s4 ⟨u,L,h4⟩=>?_)
  subst L;refine bt (zw h4 λ_ s5 ⟨x,H5,I5,r5,y5,l,P⟩=>?_);have U:=I5.pinned (S P) (T.obj _ _ l);have back:∀{f:St}{p:Hp}{q:Shared},Inv X (pins++Ze fp s5.heap) f p q->N f p->∃m,m<n/\∃i a c,Inv X pins a c q/\B i q.heap/\(∀b∈fp,c b=none)/\W i m a c:=λ {f p q} t n7=>by
   obtain⟨m',hm,w7⟩:=hN f p n7;refine⟨m',hm,i+1,f,p,t.unpinned,T.keep _ _ _ l λb k o e=>(t.pin (b,o) (aC _ (aC _ (Z2 k e)))).1,λb k=>?_,w7⟩;obtain⟨o,e,d⟩:=T.obj _ _ l b k;exact(t.pin (b,o) (aC _ (aC _ (Z2 k e)))).2.1
  refine bt (gr Y (zw (M _ s5 j H5 x u _ U r5 (step x H5 y5)) λ_ s6 ⟨v,H6,I6,q6⟩=>?_));refine bt (gr Y (zw (hi _ s6 v H6 _ I6 q6) λok q ⟨p,t,E⟩=>?_));cases ok with
  |false=>exact bw ⟨rfl,back t E⟩|true=>
   rw[af rfl]at E;exact hm _ q v p D _ _ _ _ t E λs8 σ8 H8 I8 q8=>bw ⟨rfl,back I8 q8⟩
def XN {g:TG}{ti:TT}{tm:yd}(i:∀e s,X.xe e s->False)(k:X.calm=true)(c:gens[d]? =some ⟨tg,iter,ifs,0⟩)(o:∀g',gens[d+1]? =some g'->g'.is_async=0)(t:PG X tg g)(j:km X ifs ti)(hm:j3 X elt gens sc pos d tm)
  {Q:St->Hp->Prop}{J:It}{it:Addr}{n:Nat->Heap->Prop}(T:Turn X.prog X.w X.K tg J fp it n)(I:Inv X pins σ H s)(st:n 0 s.heap)(hf:∀b∈fp,jN X pins H b)
  (h:Zm J g ti tm D σ H Q){R:Result->Shared->Prop}(p:∀s' a f,Inv X pins a f s'->Q a f->R (.ok .next) s'):
  codeAny (model X.prog X.w) X.A (.compStart (.ListComp elt gens sc pos) d (.ref it) (.ref D) X.env) R s:=by
 have loop:=OX i k c o t j hm T I st hf h p;refine codeAny_of_tree ?_;show wpAny _ _ ((compStart (.ListComp elt gens sc pos) d (.ref it) (.ref D) X.env).onRaise (λx=>do noteFrame x X.env;standAt theWindowsPlace)) _ _ s
 refine wpAny_notedAt ?_;unfold compStart;have l:(clausesOf (.ListComp elt gens sc pos))[d]? =some ⟨tg,iter,ifs,0⟩:=c;rw[l];show wpAny _ _ (ask >>= _) _ _ s;refine bt (wpAny_askSetting (wpAny_ite ?_))
 split
 ·first
   |exact bt (bw (bw (And.intro rfl loop)))
   |exact bw (And.intro rfl loop)
 ·first
   |exact bt (wpAny_rule (bt (wpAny_standAt (bt (T.self _ 0 s _ _ st (bw (And.intro rfl loop)))))))
   |(refine bt (wpAny_rule ?_);show wpAny _ _ (standAt iter.pos >>= _) _ _ s;exact bt (wpAny_standAt (bt (T.self _ 0 s _ _ st (bw (And.intro rfl loop))))))
def Of {w:TI}{g:TG}{ti:TT}{tm:yd}(b:∀e s,X.xe e s->False)(o:X.calm=true)(c:gens[d+1]? =some ⟨tg,iter,ifs,0⟩)(p:∀g',gens[d+2]? =some g'->g'.is_async=0)(hw:PI X tg iter w)(t:PG X tg g)(n:km X ifs ti)(hm:j3 X elt gens sc pos (d+1) tm)
  (j:∀x,foldedSetIterable iter X.env x=pure x:=by intro _;rfl):j3 X elt gens sc pos d (LQ w g ti tm):=by
 intro pins s σ H D Q k Q' E I h l;unfold Zs;rw[c];refine bt (gr b (zw (hw pins s σ H _ I h) λv s1 u=>?_));refine bt (wpAny_standAt (bt (wpAny_of_eq (j v) ?_)));refine bt (wpAny_holding (gr b (zw u λi s2 r=>?_)));obtain⟨it,fp,B,J,C,e,y,T,S,f2,q⟩:=r;subst e;refine bt (wpAny_runOwn (XN b o c p t n hm T y S f2 q λs' a A z f=>?_));exact l s' a A z f
end
noncomputable def yW (nl:Nat)(cap:ba)(σ:St):St:=List.replicate nl none++cap.map λi=>(σ[i]?).join
noncomputable def kP (M N:bb)(scope:Scope)(nl:Nat)(cap:ba):Bool:=
 N.length==nl+cap.length&&(List.range cap.length).all λk=>match N[nl+k]?,M[cap.getD k 0]? with
  |some x,some y=>x==y&&scope.names.any λz=>z.1==x&&z.2==NameKind.free|_,_=>false
def P9 {M:bb}{nl:Nat}{cap:ba}(h:kP M N scope nl cap=true):(yW nl cap σ).length=N.length/\
  ∀(j:Nat)(x:Str)(v:V),N[j]? =some x->(yW nl cap σ)[j]? =some (some v)->(x,NameKind.free)∈scope.names/\∃i:Nat,M[i]? =some x/\σ[i]? =some (some v):=by
 unfold kP at h;rw[aq,au]at h;obtain⟨n,l⟩:=h;refine⟨by unfold yW;simp[n],λj x v r E=>?_⟩
 unfold yW at E
 by_cases b:j<nl
 ·rw[ae (by simpa using b),aS]at E
  split at E<;>cases E
 ·rw[ai (by simpa using b),aZ,aK]at E
  cases c:cap[j-nl]? with
  |none=>rw[c]at E;cases E|some i=>
   rw[c]at E;have e:(σ[i]?).join=some v:=aj E;have k:j-nl<cap.length:=(bx.mp c).1;have H:=bA.mp l (j-nl) (List.mem_range.mpr k);have p:nl+(j-nl)=j:=by omega
   rw[p,r]at H;have q:cap.getD (j-nl) 0=i:=by rw[aI,c];rfl
   rw[q]at H;cases hm:M[i]? with
   |none=>rw[hm]at H;cases H|some y=>
    rw[hm]at H;rw[aq,au]at H;obtain⟨g,f⟩:=H;subst g;obtain⟨z,d,a⟩:=List.any_eq_true.mp f;rw[aq,au,au]at a;refine⟨?_,i,hm,?_⟩
    ·obtain⟨t,Z⟩:=z
     obtain⟨a1,a2⟩:=a;cases a1;cases a2;exact d
    ·cases s:σ[i]? with
     |none=>rw[s]at e;cases e|some o=>rw[s]at e;cases o with
      |none=>cases e|some w=>cases e;rfl
noncomputable abbrev q9:Value->Shared->Prop:=λ_ _=>False
def Qw (K:Frag)(w:TI)(g:TG)(ti:TT)(tm:yd)(nl:Nat)(cap:ba):TE:=λσ H Q=>w σ H λJ h=>∀D,h D=none->K.lookup D=none->Zm J g ti tm D (yW nl cap σ) (upd h D (.lst [])) λ_ a=>Q (.ref D) a
section
variable {iter:Expr}{wi:TI}{g:TG}{ti:TT}{tm:yd}{nl:Nat}{cap:ba}
def GV (hc:X.calm=true)(S:yL X sc)(t:kP X.N N sc nl cap=true)(ha:∀g',gs[0]? =some g'->g'.is_async=0)(hw:PI X tg iter wi)
  
  (hin:∀s H fp,Inv X pins σ H s->(∀b∈fp,jN X pins H b)->PG (qt X N sc s H fp q9) tg g/\km (qt X N sc s H fp q9) ifs ti/\j3 (qt X N sc s H fp q9) elt (⟨tg,iter,ifs,0⟩::gs) sc pos 0 tm)
  {Q:VK}(I:Inv X pins σ H s)(h:Qw X.K wi g ti tm nl cap σ H Q)
  {use:Option (Value->Sem Unit)}{Q':bc}
  (r:∀(D C:Addr)(s':Shared)(l:Hp)(m:bh),Inv X pins σ l s'->Q (.ref D) l->s'.heap.Ns C m->l C=none->C≠X.env.locals->X.s0.heap.objs.size<=C->(∀x c,X.env.cells.lookup x=some c->c≠C)->(∀q∈X.pn++pins,q.1≠C)->
   compPost (model X.prog X.w) X.A X.xe use Q' (.ref D) C (.ok .next) s')
  (hs:∀x,foldedSetIterable iter X.env x=pure x:=by intro _;rfl):
  wpAny (model X.prog X.w) X.A (comprehension (.ListComp elt (⟨tg,iter,ifs,0⟩::gs) sc pos) sc X.env p (newList []) false (eval iter X.env) use) Q' X.xe s:=by
 have j:∀y∈sc.names,y.2=.free->∃c,X.env.cells.lookup y.1=some c:=λy Z e=>I.ok.has _ (S.free y Z e);refine wpAny_comprehension_free (use:=use) rfl hs (WZ j) S.kind (λy Z e=>by
  obtain⟨y1,y2⟩:=y;have e':y2=.local:=e;subst e';exact w5 S.nd Z) ?_
 refine zw (hw pins s σ H _ I h) λv s1 h1=>zw h1 λitv s2 h2=>?_;obtain⟨it,fp,tn,J,M,e,I2,T,n,f2,q2⟩:=h2;subst e;refine wpAny_newObj_type ?_;have hD:M s2.heap.objs.size=none:=I2.fresh;have hKD:X.K.lookup s2.heap.objs.size=none:=by
  cases ek:X.K.lookup s2.heap.objs.size with
  |none=>rfl|some o=>exact absurd (aw (I2.kIn _ _ ek)) (aB _)
 have Y:=q2 _ hD hKD;generalize hs3:({ s2 with heap:=s2.heap.push { cls:=.type "list",data:=.seq ([]:a7).toArray } }:Shared)=s3
 have f:s3={ s2 with heap:=s2.heap.push { cls:=.type "list",data:=.seq ([]:a7).toArray } }:=hs3.symm
 have i:Inv X pins σ (upd M s2.heap.objs.size (.lst [])) s3:=by
  rw[f];exact I2.laid (t':=s2.toks) (λb u e=>aa _ e) (ak _) ⟨by simp,[],0,.nil,ah _ rfl⟩
 have B:∀b∈fp,∃o,s2.heap.get? b=some o:=λb a=>let ⟨o,e,_⟩:=T.obj 0 _ n b a;⟨o,e⟩
 have P:s3.heap.objs.size=s2.heap.objs.size+1:=by rw[f];exact aN ..
 have U:tn 0 s3.heap:=T.keep _ _ _ n λb a o e=>by rw[f];exact aa _ e
 have E:∀b∈fp,b<s3.heap.objs.size:=λb a=>by
  obtain⟨o,e⟩:=B b a;rw[P];exact aY (aw e)
 have L:∀b∈fp,jN X pins (upd M s2.heap.objs.size (.lst [])) b:=λb a=>by
  obtain⟨o,e⟩:=B b a;refine⟨?_,(f2 b a).2⟩;rw[zF (az (aw e))];exact(f2 b a).1
 generalize upd M s2.heap.objs.size (.lst [])=H3 at i L Y;generalize s2.heap.objs.size=D at Y ⊢;refine VW ?_;obtain⟨cl,cs⟩:=P9 t (σ:=σ);have I4:=Pd (xe:=q9) i S L E cl cs;obtain⟨hgt,hi,hm⟩:=hin s3 H3 fp i L;refine XN (X:=qt X N sc s3 H3 fp q9) (gens:=⟨tg,iter,ifs,0⟩::gs) (d:=0) (λ_ _ z=>z) hc rfl ha hgt hi hm T I4 (T.keep _ _ _ U λb a o e=>pushCells_keeps _ _ _ _ (aa _ e)) (λb a=>?_) Y λs' σ' l k q'=>?_
 ·obtain⟨g1,g2,g3,g4,g5,g6⟩:=L b a
  refine⟨g1,az (E b a),λz=>?_,.inl a,(I4.ok.exf b a).2,λp hp=>absurd (show p∈([]:a9) from hp) (by simp)⟩
  rcases bz.mp (i.stkSub b z) with e|e
  ·exact g2 e
  ·exact g3 e
 ·have I5:Inv X pins σ l s':=i.call' k.os k.base k.hok k.bare λb a=>by
   obtain⟨g1,g2,g3,g4,g5,g6⟩:=L b a;exact⟨g4,g2,g5,g6⟩
  obtain⟨m,hn,_⟩:=k.loc;refine r D _ s' l m I5 q' hn k.free (ne_of_gt i.lt) i.sz (λx c e z=>?_) λq hq z=>?_
  ·obtain⟨v,w⟩:=i.cell x c e
   exact aB _ (ar w.lt (by rw[z];exact ak _))
  ·exact aB _ (ar (aw (i.pin q hq).1) (by rw[z];exact ak _))
def Oz (d:X.calm=true)(S:yL X sc)(p:kP X.N N sc nl cap=true)(i:∀g',gs[0]? =some g'->g'.is_async=0)(hw:PI X tg iter wi)
  (n:∀s H fp,PG (qt X N sc s H fp q9) tg g/\km (qt X N sc s H fp q9) ifs ti/\j3 (qt X N sc s H fp q9) elt (⟨tg,iter,ifs,0⟩::gs) sc pos 0 tm)
  (c:∀x,foldedSetIterable iter X.env x=pure x:=by intro _;rfl):PE X (.ListComp elt (⟨tg,iter,ifs,0⟩::gs) sc pos) (Qw X.K wi g ti tm nl cap):=by
 intro pins s σ H Q I h;rw[eval_ListComp];refine GV (use:=none) d S p i hw (λs H fp _ _=>n s H fp) I h (λD C s' v m u q hn t r l k j=>?_) c;exact⟨m,hn,λh' a=>⟨.ref D,v,u.turned (t':=s'.toks) (λb o f e=>(a.2 b f).trans e) t r (.inr l) k j,rfl,q⟩⟩
def SV {p:Pos}{c:Pos}(P:X.N.Nodup)(j:X.N[i]? =some x)(l:X.env.scope.names.lookup x=some .local)
  (w:swapsWith (.ListComp elt (⟨tg,iter,ifs,0⟩::gs) sc pos) (some (.Name x p)) c.line X.env=pure true)
  (J:X.calm=true)(S:yL X sc)(d:kP X.N N sc nl cap=true)(M:∀g',gs[0]? =some g'->g'.is_async=0)(hw:PI X tg iter wi)
  (n:∀s H fp,PG (qt X N sc s H fp q9) tg g/\km (qt X N sc s H fp q9) ifs ti/\j3 (qt X N sc s H fp q9) elt (⟨tg,iter,ifs,0⟩::gs) sc pos 0 tm)
  (B:∀x,foldedSetIterable iter X.env x=pure x:=by intro _;rfl):PS X (.Assign [.Name x p] (.ListComp elt (⟨tg,iter,ifs,0⟩::gs) sc pos) c) (QX (Qw X.K wi g ti tm nl cap) (Zi i)):=by
 intro pins s σ H D I h;rw[exec_Assign_Name_used _ _ _ _ w];refine bt (wpAny_standAt (bt ?_));show wpAny _ X.A (do let _ <- comprehension (.ListComp elt (⟨tg,iter,ifs,0⟩::gs) sc pos) sc X.env _ (newList []) false (eval iter X.env) (some (assign (.Name x p) X.env))) _ _ s
 refine bt (wpAny_mono (GV (use:=some (assign (.Name x p) X.env)) (Q':=λ_ s'=>SP X pins D .next s') J S d M hw (λs H fp _ _=>n s H fp) I h (λu C s' H' m I' q hn U t T r Q=>?_) B) (λ_ s' E=>bw (bw E)) λ_ _ e=>e);show wpAny _ X.A (assign (.Name x p) X.env (.ref u)) _ _ _;refine wpAny_assign_Name (Gn I' P j (.inl l) (v:=.ref u) rfl (λs2 Z ⟨a,y,Y⟩=>?_) (.inr l));have k:C≠a:=by
  rcases Y with e|e
  ·rw[e];exact t
  ·exactλz=>r x a e z.symm
 refine⟨m,hn.sameBut y k,λh' f=>⟨_,H',Z.turned (t':=s2.toks) (λb o L e=>(f.2 b L).trans e) U t (.inr T) r Q,q⟩⟩
end
end L2
namespace Mi
open PySem PySem.Spec PyProof.Rows L2
inductive W where
 |non|bl (b:Bool)|int (i:Int)|str (x:Str)|tup (xs:List W)|ref (n:Nat)
 |clo (k:Nat) (xs:List W) (P:Obj->Addr->Obj->List V->Prop)
 |xc (x:Str)
 |fn (x:Str)
inductive O where
 |lst (xs:List W)|ro (xs:List W)|dct (kvs:List (Key×W))
 |td (kvs:List (List Int×W))
 |tr (kvs:List (List Int×W))
 |tab (q:Str) (P:Addr)
 |ins (C:Str) (fs:List (Str×W))
noncomputable def O.mut:O->Bool
 |.ro _=>false|.tr _=>false|_=>true
noncomputable abbrev Hx:=List O
noncomputable abbrev En:=List (Option W)
inductive R (α:Type) where
 |ok (a:α) (A:Hx)|exc (x:Str) (A:Hx)|bad
noncomputable def R.bind {β:Type}(r:R α)(f:α->Hx->R β):R β:=match r with
 |.ok a A=>f a A|.exc x A=>.exc x A|.bad=>.bad
def R.post (r:R α)(P:α->Hx->Prop)(E:Str->Hx->Prop):Prop:=match r with
 |.ok a A=>P a A|.exc x A=>E x A|.bad=>False
noncomputable def R.nox (r:R α):R α:=match r with
 |.ok a A=>.ok a A|.exc _ _=>.bad|.bad=>.bad
section
variable {β:Type}{r:R α}{f:α->Hx->R β}{P Q:α->Hx->Prop}{P':β->Hx->Prop}{E F:Str->Hx->Prop}
def qc {a:α}{A:Hx}:(R.ok a A).bind f=f a A:=rfl
def GB {A:Hx}:(R.exc x A:R α).bind f=.exc x A:=rfl
def zC:(r.bind f).post P' E↔r.post (λa A=>(f a A).post P' E) E:=by cases r<;>exact Iff.rfl
def zJ (h:r.post P E)(H:∀a A,P a A->Q a A)(b:∀x A,E x A->F x A):r.post Q F:=by
 cases r with
 |ok a A=>exact H _ _ h|exc x A=>exact b _ _ h|bad=>exact h
end
abbrev Ev:=En->Hx->R W
inductive Hd (K:Frag)(H:Hp)(R:List V->Prop)(v:V):Prop
 |mk (a:Addr) (vs:List V) (e:v=.ref a) (h:zP K H a vs) (r:R vs)
inductive Hg (H:Hp)(P:Obj->Addr->Obj->List V->Prop)(R:List V->Prop)(v:V):Prop
 |mk (a:Addr) (ob:Obj) (u:HO) (c:Addr) (oc:Obj) (uc:HO) (vs:List V) (e:v=.ref a) (h1:H a=some (.frz ob u)) (h2:H c=some (.frz oc uc)) (p:P ob c oc vs) (r:R vs)
inductive Hq (R:V->Prop)(Rs:List V->Prop)(vs:List V):Prop
 |mk (v:V) (r:List V) (e:vs=v::r) (h:R v) (t:Rs r)
mutual
noncomputable def RV (K:Frag)(φ:a8)(H:Hp):W->V->Prop
 |.non,v=>v=.non|.bl b,v=>v=.bl b|.int i,v=>v=.int i|.str x,v=>v=.str x|.tup ws,v=>Hd K H (zo K φ H ws) v|.ref n,v=>∃a,v=.ref a/\φ[n]? =some a|.clo _ ws P,v=>Hg H P (zo K φ H ws) v|.xc x,v=>∃a o u C,v=.ref a/\H a=some (.frz o u)/\o.cls=.ref C/\nsIn K mainGlobals x=some (some (.ref C))|.fn x,v=>∃a,v=.ref a/\nsIn K mainGlobals x=some (some (.ref a))
noncomputable def zo (K:Frag)(φ:a8)(H:Hp):List W->List V->Prop
 |[],vs=>vs=[]|w::ws,vs=>Hq (RV K φ H w) (zo K φ H ws) vs
end
structure Le (K:Frag)(φ:a8)(H:Hp)(φ':a8)(H':Hp):Prop where
 ex:∀(n:Nat)(a:Addr),φ[n]? =some a->φ'[n]? =some a
 tp:∀a vs,zP K H a vs->zP K H' a vs
 fr:∀a o,H a=some o->(∀n:Nat,φ[n]?≠some a)->H' a=some o
 nw:∀(n:Nat)(a:Addr),φ'[n]? =some a->φ[n]? =some a∨H a=none
 st:∀a,H' a=none->H a=none
 fz:∀a o u,H a=some (.frz o u)->H' a=some (.frz o u)
def Le.refl {K φ H}:Le K φ H φ H:=⟨λ_ _ h=>h,λ_ _ h=>h,λ_ _ h _=>h,λ_ _ h=>.inl h,λ_ h=>h,λ_ _ _ h=>h⟩
def Le.trans {K φ H φ1 H1 φ2 H2}(a:Le K φ H φ1 H1)(b:Le K φ1 H1 φ2 H2):Le K φ H φ2 H2 where
 ex:=λn x h=>b.ex n x (a.ex n x h)
 tp:=λn x h=>b.tp n x (a.tp n x h)
 fr:=λc o h n=>b.fr c o (a.fr c o h n) λk e=>by
  rcases a.nw k c e with e|e
  ·exact n k e
  ·rw[h]at e;cases e
 nw:=λn c e=>by
  rcases b.nw n c e with e|e
  ·exact a.nw n c e
  ·exact .inr (a.st c e)
 st:=λc e=>a.st c (b.st c e)
 fz:=λc o u h=>b.fz c o u (a.fz c o u h)
def Le.off {K φ H φ' H'}(l:Le K φ H φ' H')(h:H D=some o)(n:∀k:Nat,φ[k]?≠some D):H' D=some o/\∀k:Nat,φ'[k]?≠some D:=
 ⟨l.fr D o h n,λk e=>by
  rcases l.nw k D e with e|e
  ·exact n k e
  ·rw[h]at e;cases e⟩
section
variable {K:Frag}{φ':a8}{H':Hp}
structure kD (K:Frag)(φ:a8)(H:Hp)(φ':a8)(H':Hp):Prop where
 ex:∀(n:Nat)(a:Addr),φ[n]? =some a->φ'[n]? =some a
 tp:∀a vs,zP K H a vs->zP K H' a vs
 fz:∀a o u,H a=some (.frz o u)->H' a=some (.frz o u)
mutual
theorem RV.monoW (l:kD K φ H φ' H'):∀{w:W}{v:V},RV K φ H w v->RV K φ' H' w v
 |.non,_,h=>h|.bl _,_,h=>h|.int _,_,h=>h|.str _,_,h=>h|.tup ws,_,⟨a,vs,e,t,r⟩=>⟨a,vs,e,l.tp _ _ t,zo.monoW l r⟩|.ref n,_,⟨a,e,f⟩=>⟨a,e,l.ex _ _ f⟩|.clo _ ws P,_,⟨a,ob,u,c,g,uc,vs,e,d,b,i,r⟩=>⟨a,ob,u,c,g,uc,vs,e,l.fz _ _ _ d,l.fz _ _ _ b,i,zo.monoW l r⟩|.xc x,_,⟨a,o,u,C,e,d,b⟩=>⟨a,o,u,C,e,l.fz _ _ _ d,b⟩|.fn _,_,h=>h
theorem zo.monoW (l:kD K φ H φ' H'):∀{ws:List W}{vs:List V},zo K φ H ws vs->zo K φ' H' ws vs
 |[],_,h=>h|w::ws,_,⟨v,r,e,h,t⟩=>⟨v,r,e,RV.monoW l h,zo.monoW l t⟩
end
def RV.mono {w:W}(h:RV K φ H w v)(l:Le K φ H φ' H'):RV K φ' H' w v:=RV.monoW ⟨l.ex,l.tp,l.fz⟩ h
def zo.mono {w:List W}{v:List V}(h:zo K φ H w v)(l:Le K φ H φ' H'):zo K φ' H' w v:=zo.monoW ⟨l.ex,l.tp,l.fz⟩ h
structure ja (K:Frag)(D:Addr)(φ:a8)(H:Hp)(φ':a8)(H':Hp):Prop where
 ex:∀(n:Nat)(a:Addr),φ[n]? =some a->φ'[n]? =some a
 tp:∀a vs,zP K H a vs->zP K H' a vs
 fr:∀a o,a≠D->H a=some o->(∀n:Nat,φ[n]?≠some a)->H' a=some o
 nw:∀(n:Nat)(a:Addr),φ'[n]? =some a->φ[n]? =some a∨H a=none
 st:∀a,H' a=none->H a=none
 fz:∀a o u,H a=some (.frz o u)->H' a=some (.frz o u)
def ja.refl {D}:ja K D φ H φ H:=⟨λ_ _ h=>h,λ_ _ h=>h,λ_ _ _ h _=>h,λ_ _ h=>.inl h,λ_ h=>h,λ_ _ _ h=>h⟩
def Le.toD {D}(l:Le K φ H φ' H'):ja K D φ H φ' H':=⟨l.ex,l.tp,λa o _ h n=>l.fr a o h n,l.nw,l.st,l.fz⟩
def ja.trans {D φ1 H1 φ2 H2}(a:ja K D φ H φ1 H1)(b:ja K D φ1 H1 φ2 H2):ja K D φ H φ2 H2 where
 ex:=λn x h=>b.ex n x (a.ex n x h)
 tp:=λn x h=>b.tp n x (a.tp n x h)
 fr:=λc o ne h n=>b.fr c o ne (a.fr c o ne h n) λk e=>by
  rcases a.nw k c e with e|e
  ·exact n k e
  ·rw[h]at e;cases e
 nw:=λn c e=>by
  rcases b.nw n c e with e|e
  ·exact a.nw n c e
  ·exact .inr (a.st c e)
 st:=λc e=>a.st c (b.st c e)
 fz:=λc o u h=>b.fz c o u (a.fz c o u h)
def RV.monoD {D}{w:W}(h:RV K φ H w v)(l:ja K D φ H φ' H'):RV K φ' H' w v:=RV.monoW ⟨l.ex,l.tp,l.fz⟩ h
def zo.monoD {D}{w:List W}{v:List V}(h:zo K φ H w v)(l:ja K D φ H φ' H'):zo K φ' H' w v:=zo.monoW ⟨l.ex,l.tp,l.fz⟩ h
theorem zo.length:∀{ws:List W}{vs:List V},zo K φ H ws vs->ws.length=vs.length
 |[],_,h=>by cases h;rfl|w::ws,_,⟨v,r,e,_,t⟩=>by subst e;simp[zo.length t]
theorem zo.get:∀{ws:List W}{vs:List V}{i:Nat}{w:W},zo K φ H ws vs->ws[i]? =some w->∃v,vs[i]? =some v/\RV K φ H w v
 |[],_,_,_,_,e=>by simp at e|w::ws,_,0,_,⟨v,r,e,h,t⟩,q=>by subst e;simp at q;subst q;exact⟨v,by simp,h⟩|w::ws,_,i+1,x,⟨v,r,e,h,t⟩,q=>by
  subst e;obtain⟨y,b,a⟩:=zo.get (i:=i) (w:=x) t (by simpa using q)
  exact⟨y,by simpa using b,a⟩
theorem zo.append:∀{ws us:List W}{vs xs:List V},zo K φ H ws vs->zo K φ H us xs->zo K φ H (ws++us) (vs++xs)
 |[],_,_,_,h,t=>by cases h;exact t|w::ws,_,_,_,⟨v,r,e,h,t⟩,T=>by subst e;exact⟨v,r++_,rfl,h,zo.append t T⟩
def zo.one {w:W}(h:RV K φ H w v):zo K φ H [w] [v]:=⟨v,[],rfl,h,rfl⟩
def zo.nil:zo K φ H [] []:=rfl
def zo.cons {w:W}{v:V}{ws:List W}{vs:List V}(h:RV K φ H w v)(t:zo K φ H ws vs):zo K φ H (w::ws) (v::vs):=⟨v,vs,rfl,h,t⟩
theorem zo.set {w:W}(q:RV K φ H w v):∀{ws:List W}{vs:List V}(i:Nat),zo K φ H ws vs->zo K φ H (ws.set i w) (vs.set i v)
 |[],_,_,h=>by cases h;exact rfl|_::_,_,0,⟨a,r,e,h,t⟩=>by subst e;exact⟨v,r,rfl,q,t⟩|_::_,_,i+1,⟨a,r,e,h,t⟩=>by subst e;exact⟨a,_,rfl,h,zo.set q i t⟩
theorem zo.drop:∀{ws:List W}{vs:List V}(n:Nat),zo K φ H ws vs->zo K φ H (ws.drop n) (vs.drop n)
 |[],_,n,h=>by cases h;rw[List.drop_nil,List.drop_nil];exact zo.nil|_::_,_,0,h=>by simpa using h|_::_,_,n+1,⟨v,r,e,h,t⟩=>by subst e;simpa using zo.drop n t
theorem zo.take:∀{ws:List W}{vs:List V}(n:Nat),zo K φ H ws vs->zo K φ H (ws.take n) (vs.take n)
 |[],_,n,h=>by cases h;rw[List.take_nil,List.take_nil];exact zo.nil|_::_,_,0,h=>by rw[List.take_zero,List.take_zero];exact zo.nil|_::_,_,n+1,⟨v,r,e,h,t⟩=>by subst e;exact⟨v,_,rfl,h,zo.take n t⟩
theorem zo.ints:∀{ns:a6}{vs:List V},zo K φ H (ns.map W.int) vs↔vs=ns.map V.int
 |[],vs=>Iff.rfl|n::ns,vs=>by
  constructor
  ·rintro⟨v,r,e,h,t⟩
   rw[e,(show v=V.int n from h),zo.ints.mp t];rfl
  ·intro e
   exact⟨V.int n,ns.map V.int,e,rfl,zo.ints.mpr rfl⟩
def gJ (K:Frag)(H:Hp)(a:Addr)(xs:List V):Prop:=
 (∃ob,H a=some (.frz ob (.lst xs)))∨
  ∃(o:Obj) (its:Array Value) (n:Nat),K.lookup a=some o/\o.cls=.type "list" /\ o.dict=none/\o.data=.seq its n/\its.size<=sizeLine/\Vals xs its.toList
def gJ.sq (h:gJ K H a xs):z8 K H a xs:=by
 rcases h with h|h
 ·exact .inl (.inr h)
 ·exact .inr h
inductive TabAt (H:Hp)(q:Str)(cv:Value):Prop
 |mk (c:Addr) (oc:Obj) (u:HO) (vs:Array Value) (t:Tok) (e:cv=.ref c) (h:H c=some (.frz oc u)) (d:oc.data=.fields vs/\vs[1]? =some (.str q t))
def Zv (H:Hp)(q:Str)(p:Array Value):Prop:=TriplesOk p.toList/\∀pos cv,codeAmong pos p.toList=some cv->TabAt H q cv
def Zv.mono {q:Str}{p:Array Value}(h:Zv H q p)(l:∀a o u,H a=some (.frz o u)->H' a=some (.frz o u)):Zv H' q p:=
 ⟨h.1,λpos cv e=>by obtain⟨c,b,u,vs,t,g,f,d⟩:=h.2 pos cv e;exact⟨c,b,u,vs,t,g,l _ _ _ f,d⟩⟩
noncomputable def hT (k:a6):Int:=reduceHash (Builtin.Tuple.tupleHashOf (k.map hashInt))
def H9 (a:Addr)(xs:List (List Int×Addr×V))(h:Heap):Prop:=(a==sysModules)=false/\xs.length<=sizeLine/\∃zs:List (List Int×Addr×Value),
 Paired (λ(p:List Int×Addr×V) (q:List Int×Addr×Value)=>p.1=q.1/\p.2.1=q.2.1/\RelV p.2.2 q.2.2) xs zs/\
 ∃o e E,h.get? a=some o/\o.ExactDict/\o.data=.dict e E/\e.toList=zs.map (λx=>(⟨hT x.1,.ref x.2.1,x.2.2⟩:DictEntry))/\(zs.map (·.1)).Nodup
def HW (a:Addr)(xs:List (List Int×Addr×V))(o:Obj):Prop:=(a==sysModules)=false/\xs.length<=sizeLine/\∃zs:List (List Int×Addr×Value),
 Paired (λ(p:List Int×Addr×V) (q:List Int×Addr×Value)=>p.1=q.1/\p.2.1=q.2.1/\RelV p.2.2 q.2.2) xs zs/\
 ∃e E,o.ExactDict/\o.data=.dict e E/\e.toList=zs.map (λx=>(⟨hT x.1,.ref x.2.1,x.2.2⟩:DictEntry))/\(zs.map (·.1)).Nodup
def OR (K:Frag)(φ:a8)(H:Hp)(a:Addr):O->Prop
 |.lst ws=>∃vs,H a=some (.lst vs)/\zo K φ H ws vs|.ro ws=>∃vs,gJ K H a vs/\zo K φ H ws vs|.dct kvs=>∃us,H a=some (.dK us)/\us.map (·.1)=kvs.map (·.1)/\zo K φ H (kvs.map (·.2)) (us.map (·.2))|.td kvs=>∃xs:List (List Int×Addr×V),H a=some (.ext (H9 a xs))/\xs.map (·.1)=kvs.map (·.1)/\(∀x∈xs,zP K H x.2.1 (x.1.map V.int))/\zo K φ H (kvs.map (·.2)) (xs.map (·.2.2))|.tr kvs=>∃(ob:Obj) (u:HO) (xs:List (List Int×Addr×V)),H a=some (.frz ob u)/\HW a xs ob/\xs.map (·.1)=kvs.map (·.1)/\(∀x∈xs,zP K H x.2.1 (x.1.map V.int))/\zo K φ H (kvs.map (·.2)) (xs.map (·.2.2))|.tab q P=>a=P/\∃p,H a=some (.tbl p)/\Zv H q p|.ins C fs=>∃(c dx:Addr) (us:List (Str×V)),nsIn K mainGlobals C=some (some (.ref c))/\H a=some (.ins c dx us)/\us.map (·.1)=fs.map (·.1)/\zo K φ H (fs.map (·.2)) (us.map (·.2))
structure zu (K:Frag)(φ:a8)(A:Hx)(H:Hp):Prop where
 len:φ.length=A.length
 inj:∀(i j:Nat)(a:Addr)(o o':O),φ[i]? =some a->φ[j]? =some a->A[i]? =some o->A[j]? =some o'->o.mut=true->o'.mut=true->i=j
 ob:∀(n:Nat)(o:O),A[n]? =some o->∃a,φ[n]? =some a/\OR K φ H a o
variable {A:Hx}
def OR.there {o:O}(h:OR K φ H a o)(m:o.mut=true):∃u,H a=some u/\(∀xs,u≠.tup xs)/\(∀ob v,u≠.frz ob v):=by
 cases o with
 |lst ws=>obtain⟨vs,e,_⟩:=h;exact⟨_,e,λ_ z=>(by cases z),λ_ _ z=>(by cases z)⟩|ro ws=>cases m|dct kvs=>obtain⟨vs,e,_⟩:=h;exact⟨_,e,λ_ z=>(by cases z),λ_ _ z=>(by cases z)⟩|td kvs=>obtain⟨vs,e,_⟩:=h;exact⟨_,e,λ_ z=>(by cases z),λ_ _ z=>(by cases z)⟩|tr _=>cases m|tab q P=>obtain⟨_,vs,e,_⟩:=h;exact⟨_,e,λ_ z=>(by cases z),λ_ _ z=>(by cases z)⟩|ins _ _=>obtain⟨_,_,vs,_,e,_⟩:=h;exact⟨_,e,λ_ z=>(by cases z),λ_ _ z=>(by cases z)⟩
def Qo (h:zP K H a vs)(n:∀xs,H b≠some (.tup xs))(N:∀ob u,H b≠some (.frz ob u)):zP K (upd H b o) a vs:=by
 rcases h with (h|⟨ob,h⟩)|h
 ·exact .inl (.inl (by rw[zF];exact h;intro e;subst e;exact n _ h))
 ·exact .inl (.inr ⟨ob,by rw[zF];exact h;intro e;subst e;exact N _ _ h⟩)
 ·exact .inr h
theorem Le.upd (c:φ[k]? =some b)(n:∀xs,H b≠some (.tup xs))(N:∀ob u,H b≠some (.frz ob u)):Le K φ H φ (upd H b o) where
 ex:=λ_ _ h=>h
 tp:=λ_ _ h=>Qo h n N
 fr:=λa u h z=>by
  rw[zF];exact h;intro e;subst e;exact z k c
 nw:=λ_ _ h=>.inl h
 st:=λa h=>by
  by_cases e:a=b
  ·subst e;rw[ql]at h;cases h
  ·rw[zF e]at h;exact h
 fz:=λa ob u h=>by
  rw[zF];exact h;intro e;subst e;exact N _ _ h
def Le.new {p:Addr}(b:H p=none):Le K φ H φ (L2.upd H p o) where
 ex:=λ_ _ h=>h
 tp:=λ_ _ h=>Qo h (λxs z=>by rw[b]at z;cases z) (λ_ _ z=>by rw[b]at z;cases z)
 fr:=λa u h z=>by
  rw[zF];exact h;intro e;subst e;rw[b]at h;cases h
 nw:=λ_ _ h=>.inl h
 st:=λa h=>by
  by_cases e:a=p
  ·subst e;rw[ql]at h;cases h
  ·rw[zF e]at h;exact h
 fz:=λa ob u h=>by
  rw[zF];exact h;intro e;subst e;rw[b]at h;cases h
def Le.alloc {p:Addr}(b:H p=none):Le K φ H (φ++[p]) (L2.upd H p o) where
 ex:=λn a h=>by
  have:=(bx.mp h).1
  rw[ae this];exact h
 tp:=(Le.new (φ:=φ) b).tp
 fr:=(Le.new (K:=K) (φ:=φ) b).fr
 nw:=λn a h=>by
  by_cases hn:n < φ.length
  ·rw[ae hn]at h;exact .inl h
  ·rw[ai (by omega)]at h
   have e:a=p:=by
    have:=a3 h
    simpa using this
   subst e;exact .inr b
 st:=(Le.new (K:=K) (φ:=φ) b).st
 fz:=(Le.new (K:=K) (φ:=φ) b).fz
def Le.ofD (b:H D=none)(l:ja K D φ (L2.upd H D o) φ' H'):Le K φ H φ' H' where
 ex:=l.ex
 tp:=λa vs h=>l.tp a vs ((Le.new (K:=K) (φ:=φ) b).tp a vs h)
 fr:=λa u h n=>by
  have ne:a≠D:=by rintro rfl;rw[b]at h;cases h
  exact l.fr a u ne (by rw[zF ne];exact h) n
 nw:=λn a e=>by
  rcases l.nw n a e with e|e
  ·exact .inl e
  ·by_cases h:a=D
   ·subst h;rw[ql]at e;cases e
   ·rw[zF h]at e;exact .inr e
 st:=λa e=>by
  have E:=l.st a e
  by_cases h:a=D
  ·subst h;rw[ql]at E;cases E
  ·rw[zF h]at E;exact E
 fz:=λa ob u h=>l.fz a ob u (by rw[zF];exact h;rintro rfl;rw[b]at h;cases h)
theorem ja.upd (b:H D=some (.lst xs)):ja K D φ H φ (L2.upd H D o) where
 ex:=λ_ _ h=>h
 tp:=λa vs h=>Qo h (λxs z=>by rw[b]at z;cases z) (λ_ _ z=>by rw[b]at z;cases z)
 fr:=λa u ne h n=>by rw[zF ne];exact h
 nw:=λ_ _ h=>.inl h
 st:=λa e=>by
  by_cases h:a=D
  ·subst h;rw[ql]at e;cases e
  ·rw[zF h]at e;exact e
 fz:=λa ob u h=>by
  rw[zF];exact h;intro e;subst e;rw[b]at h;cases h
def OR.keep {o:O}(h:OR K φ H a o)(l:Le K φ H φ' H')(e:∀u,H a=some u->H' a=some u):OR K φ' H' a o:=by
 cases o with
 |lst ws=>obtain⟨vs,q,r⟩:=h;exact⟨vs,e _ q,r.mono l⟩|dct kvs=>obtain⟨vs,q,k,r⟩:=h;exact⟨vs,e _ q,k,r.mono l⟩|td kvs=>obtain⟨vs,q,k,t,r⟩:=h;exact⟨vs,e _ q,k,λx b=>l.tp _ _ (t x b),r.mono l⟩|tr kvs=>obtain⟨ob,u,vs,q,d,k,t,r⟩:=h;exact⟨ob,u,vs,e _ q,d,k,λx b=>l.tp _ _ (t x b),r.mono l⟩|tab q P=>obtain⟨k,p,q,r⟩:=h;exact⟨k,p,e _ q,r.mono l.fz⟩|ins _ _=>obtain⟨C,d,vs,n,q,k,r⟩:=h;exact⟨C,d,vs,n,e _ q,k,r.mono l⟩|ro ws=>
  obtain⟨vs,q,r⟩:=h;refine⟨vs,?_,r.mono l⟩;rcases q with ⟨ob,q⟩|q
  ·exact .inl ⟨ob,e _ q⟩
  ·exact .inr q
theorem zu.alloc {p:Addr}{u:HO}{o:O}(S:zu K φ A H)(r:H p=none)(new:OR K (φ++[p]) (L2.upd H p u) p o):Le K φ H (φ++[p]) (L2.upd H p u)/\zu K (φ++[p]) (A++[o]) (L2.upd H p u):=by
 have l:Le K φ H (φ++[p]) (L2.upd H p u):=Le.alloc r;have old:∀(i:Nat) a,(φ++[p])[i]? =some a->i<A.length->φ[i]? =some a:=λi a e b=>by
  rw[ae (by rw[S.len];exact b)]at e;exact e
 refine⟨l,by simp[S.len],λi j a x w k g f c y M=>?_,λn o' e=>?_⟩
 ·by_cases b:i<A.length
  ·by_cases d:j<A.length
   ·rw[ae b]at f
    rw[ae d]at c;exact S.inj i j a x w (old i a k b) (old j a g d) f c y M
   ·exfalso
    rw[ae b]at f;have t:j=A.length:=by have:=(bx.mp c).1;simp at this;omega
    subst t;rw[ai (by rw[S.len];exact ak _),S.len]at g
    simp at g;obtain⟨C,E,q⟩:=S.ob i x f;rw[old i a k b]at E;cases E;obtain⟨z,h,_⟩:=q.there y;rw[<- g,r]at h;cases h
  ·have v:i=A.length:=by have:=(bx.mp f).1;simp at this;omega
   by_cases d:j<A.length
   ·exfalso
    rw[ae d]at c;subst v;rw[ai (by rw[S.len];exact ak _),S.len]at k
    simp at k;obtain⟨C,E,q⟩:=S.ob j w c;rw[old j a g d]at E;cases E;obtain⟨z,h,_⟩:=q.there M;rw[<- k,r]at h;cases h
   ·have:=(bx.mp c).1;simp at this;omega
 ·by_cases hn:n<A.length
  ·rw[ae hn]at e
   obtain⟨a,E,q⟩:=S.ob n o' e;refine⟨a,l.ex _ _ E,q.keep l λz h=>?_⟩;rw[zF];exact h;intro B;subst B;rw[r]at h;cases h
  ·have s:n=A.length:=by have:=(bx.mp e).1;simp at this;omega
   subst s;rw[ai (ak _)]at e;simp at e;subst e;exact⟨p,by rw[ai (by rw[S.len];exact ak _),S.len];simp,new⟩
def zu.write {p:Addr}{u:HO}{o o':O}(S:zu K φ A H)(hn:A[n]? =some o)(m:o.mut=true)(Z:o'.mut=true)(c:φ[n]? =some p)(new:OR K φ (L2.upd H p u) p o'):
  Le K φ H φ (L2.upd H p u)/\zu K φ (A.set n o') (L2.upd H p u):=by
 obtain⟨Y,e,q⟩:=S.ob n o hn;rw[c]at e;cases e;obtain⟨z,h,D,N⟩:=q.there m;have l:Le K φ H φ (L2.upd H p u):=Le.upd c (λxs e=>by rw[h]at e;exact D xs (aj e)) λob v e=>by rw[h]at e;exact N ob v (aj e)
 have mt:∀(i:Nat)(w:O),(A.set n o')[i]? =some w->w.mut=true->∃f,A[i]? =some f/\f.mut=true:=λi w e M=>by
  by_cases hi:i=n
  ·subst hi;exact⟨o,hn,m⟩
  ·rw[aH (Ne.symm hi)]at e;exact⟨w,e,M⟩
 refine⟨l,by simp[S.len],λi j a C B U T Q P J I=>?_,λi w e=>?_⟩
 ·obtain⟨s,E,k1⟩:=mt i C Q J
  obtain⟨g,X,k2⟩:=mt j B P I;exact S.inj i j a s g U T E X k1 k2
 ·by_cases hi:i=n
  ·subst hi
   have:i<A.length:=(bx.mp hn).1
   rw[aF this]at e;cases e;exact⟨p,c,new⟩
  ·rw[aH (Ne.symm hi)]at e
   obtain⟨a,E,r⟩:=S.ob i w e;refine⟨a,E,?_⟩
   by_cases hm:w.mut=true
   ·have ne:a≠p:=λz=>hi (S.inj i n a w o E (by rw[z];exact c) e hn hm m)
    exact r.keep l λz h=>by rw[zF ne];exact h
   ·cases w with
    |lst _=>exact absurd rfl hm|dct _=>exact absurd rfl hm|td _=>exact absurd rfl hm|tr _=>obtain⟨ob,u,vs,q,d,k,t,r⟩:=r;exact⟨ob,u,vs,l.fz _ _ _ q,d,k,λx L=>l.tp _ _ (t x L),r.mono l⟩|tab _ _=>exact absurd rfl hm|ins _ _=>exact absurd rfl hm|ro ws=>
     obtain⟨vs,b,y⟩:=r;refine⟨vs,?_,y.mono l⟩;rcases b with ⟨ob,b⟩|b
     ·refine .inl ⟨ob,?_⟩
      rw[zF];exact b;intro z;subst z;rw[h]at b;exact N _ _ (aj b)
     ·exact .inr b
def zu.lay {p:Addr}{u:HO}(S:zu K φ A H)(b:H p=none):zu K φ A (L2.upd H p u):=
 ⟨S.len,S.inj,λn o e=>by
  obtain⟨a,c,q⟩:=S.ob n o e;refine⟨a,c,q.keep (Le.new b) λz h=>?_⟩;rw[zF];exact h;intro E;subst E;rw[b]at h;cases h⟩
def zu.off (S:zu K φ A H)(b:H D=some (.lst xs))(n:∀k:Nat,φ[k]?≠some D):zu K φ A (L2.upd H D o):=
 ⟨S.len,S.inj,λk u e=>by
  obtain⟨a,E,q⟩:=S.ob k u e;have ne:a≠D:=λz=>n k (by rw[<- z];exact E)
  have l:ja K D φ H φ (L2.upd H D o):=ja.upd b;refine⟨a,E,?_⟩;cases u with
  |lst ws=>obtain⟨vs,q,r⟩:=q;exact⟨vs,by rw[zF ne];exact q,r.monoD l⟩|dct kvs=>obtain⟨vs,q,k,r⟩:=q;exact⟨vs,by rw[zF ne];exact q,k,r.monoD l⟩|td kvs=>obtain⟨vs,q,k,t,r⟩:=q;exact⟨vs,by rw[zF ne];exact q,k,λx h=>l.tp _ _ (t x h),r.monoD l⟩|tr kvs=>obtain⟨ob,u,vs,q,d,k,t,r⟩:=q;exact⟨ob,u,vs,l.fz _ _ _ q,d,k,λx h=>l.tp _ _ (t x h),r.monoD l⟩|tab _ _=>obtain⟨k,vs,q,r⟩:=q;exact⟨k,vs,by rw[zF ne];exact q,r.mono l.fz⟩|ins _ _=>obtain⟨C,d,vs,n,q,k,r⟩:=q;exact⟨C,d,vs,n,by rw[zF ne];exact q,k,r.monoD l⟩|ro ws=>
   obtain⟨vs,q,r⟩:=q;refine⟨vs,?_,r.monoD l⟩;rcases q with ⟨ob,q⟩|q
   ·exact .inl ⟨ob,by rw[zF ne];exact q⟩
   ·exact .inr q⟩
def zu.notin (S:zu K φ A H)(b:H D=none)(d:K.lookup D=none):∀k:Nat,φ[k]?≠some D:=λk e=>by
 have c:k<A.length:=by rw[<- S.len];exact(bx.mp e).1
 obtain⟨a,E,q⟩:=S.ob k A[k] (by simp[c])
 rw[e]at E;cases E;cases h:A[k] with
 |lst ws=>rw[h]at q;obtain⟨vs,z,_⟩:=q;rw[b]at z;cases z|dct ws=>rw[h]at q;obtain⟨vs,z,_⟩:=q;rw[b]at z;cases z|td _=>rw[h]at q;obtain⟨vs,z,_⟩:=q;rw[b]at z;cases z|tr _=>rw[h]at q;obtain⟨_,_,_,z,_⟩:=q;rw[b]at z;cases z|tab _ _=>rw[h]at q;obtain⟨_,vs,z,_⟩:=q;rw[b]at z;cases z|ins _ _=>rw[h]at q;obtain⟨_,_,vs,_,z,_⟩:=q;rw[b]at z;cases z|ro ws=>
  rw[h]at q;obtain⟨vs,z,_⟩:=q;rcases z with ⟨ob,z⟩|⟨o,i,n,z,_⟩
  ·rw[b]at z;cases z
  ·rw[d]at z;cases z
def zu.gy {u:HO}{o:O}(S:zu K φ A H)(N:H D=some u)(n:∀k:Nat,φ[k]?≠some D)(new:OR K (φ++[D]) H D o):zu K (φ++[D]) (A++[o]) H:=by
 have l:kD K φ H (φ++[D]) H:=⟨λn a h=>by
  have:=(bx.mp h).1
  rw[ae this];exact h,λ_ _ h=>h,λ_ _ _ h=>h⟩
 have old:∀(i:Nat) a,(φ++[D])[i]? =some a->i<A.length->φ[i]? =some a:=λi a e b=>by
  rw[ae (by rw[S.len];exact b)]at e;exact e
 have last:∀a,(φ++[D])[A.length]? =some a->a=D:=λa e=>by
  rw[ai (by rw[S.len];exact ak _),S.len]at e
  simpa using e.symm
 refine⟨by simp[S.len],λi j a I E B y w f J M=>?_,λk o' e=>?_⟩
 ·by_cases b:i<A.length
  ·by_cases c:j<A.length
   ·rw[ae b]at w
    rw[ae c]at f;exact S.inj i j a I E (old i a B b) (old j a y c) w f J M
   ·exfalso
    have s:j=A.length:=by have:=(bx.mp f).1;simp at this;omega
    subst s;exact n i (by rw[<- last a y];exact old i a B b)
  ·have v:i=A.length:=by have:=(bx.mp w).1;simp at this;omega
   by_cases c:j<A.length
   ·exfalso
    subst v;exact n j (by rw[<- last a B];exact old j a y c)
   ·have:=(bx.mp f).1;simp at this;omega
 ·by_cases hn:k<A.length
  ·rw[ae hn]at e
   obtain⟨a,L,q⟩:=S.ob k o' e;refine⟨a,l.ex _ _ L,?_⟩;cases o' with
   |lst ws=>obtain⟨vs,z,r⟩:=q;exact⟨vs,z,r.monoW l⟩|dct ws=>obtain⟨vs,z,Z,r⟩:=q;exact⟨vs,z,Z,r.monoW l⟩|td _=>obtain⟨vs,z,Z,t,r⟩:=q;exact⟨vs,z,Z,λx g=>l.tp _ _ (t x g),r.monoW l⟩|tr _=>obtain⟨ob,u,vs,z,d,Z,t,r⟩:=q;exact⟨ob,u,vs,z,d,Z,λx g=>l.tp _ _ (t x g),r.monoW l⟩|tab _ _=>exact q|ins _ _=>obtain⟨C,d,vs,n,z,Z,r⟩:=q;exact⟨C,d,vs,n,z,Z,r.monoW l⟩|ro ws=>obtain⟨vs,z,r⟩:=q;exact⟨vs,z,r.monoW l⟩
  ·have p:k=A.length:=by have:=(bx.mp e).1;simp at this;omega
   subst p;rw[ai (ak _)]at e;simp at e;subst e;exact⟨D,by rw[ai (by rw[S.len];exact ak _),S.len];simp,new⟩
def Le.gy {b:a8}{H0:Hp}(l:Le K b H0 φ H)(h0:H0 D=none):Le K b H0 (φ++[D]) H where
 ex:=λn a h=>by
  have h':=l.ex n a h
  have:=(bx.mp h').1
  rw[ae this];exact h'
 tp:=l.tp
 fr:=l.fr
 nw:=λn a e=>by
  by_cases hn:n < φ.length
  ·rw[ae hn]at e;exact l.nw n a e
  ·rw[ai (by omega)]at e
   have E:a=D:=by
    have:=a3 e
    simpa using this
   subst E;exact .inr h0
 st:=l.st
 fz:=l.fz
end
noncomputable abbrev St:=L2.St
abbrev XR:=Str->Hp->Prop
def PB (K:Frag)(φ:a8)(H:Hp)(Q:VK):W->Hx->Prop:=λw A=>∀a h v,Le K φ H a h->zu K a A h->RV K a h w v->Q v h
def Fd (K:Frag)(φ:a8)(H:Hp)(Q:List V->Hp->Prop):List W->Hx->Prop:=λw A=>∀a h v,Le K φ H a h->zu K a A h->zo K a h w v->Q v h
noncomputable def EB (K:Frag)(φ:a8)(H:Hp)(X:XR):Str->Hx->Prop:=λx A=>∀a h,Le K φ H a h->zu K a A h->X x h
structure RE (K:Frag)(φ:a8)(H:Hp)(ρ:En)(σ:St):Prop where
 len:σ.length=ρ.length
 get:∀(i:Nat)(w:W),ρ[i]? =some (some w)->∃v,σ[i]? =some (some v)/\RV K φ H w v
section
variable {K:Frag}{φ1 φ':a8}{H1 H':Hp}{A:Hx}{ρ:En}{xr:XR}
theorem RE.mono (r:RE K φ H ρ σ)(l:Le K φ H φ' H'):RE K φ' H' ρ σ:=⟨r.len,λi w e=>let ⟨v,h1,h⟩:=r.get i w e;⟨v,h1,h.mono l⟩⟩
def PB.mono {Q:VK}{w:W}(h:PB K φ H Q w A)(l:Le K φ H φ1 H1):PB K φ1 H1 Q w A:=λa b v L=>h a b v (l.trans L)
def EB.mono (h:EB K φ H xr x A)(l:Le K φ H φ1 H1):EB K φ1 H1 xr x A:=λa b L=>h a b (l.trans L)
theorem RE.set {w:W}(r:RE K φ H ρ σ)(q:RV K φ H w v):RE K φ H (ρ.set i (some w)) (σ.set i (some v)):=
 ⟨by simp[r.len],λj u e=>by
  by_cases h:i=j
  ·subst h
   have a:i < ρ.length:=by
    have:=(bx.mp e).1
    simpa using this
   rw[aF a]at e;cases e;exact⟨v,by rw[aF (by rw[r.len];exact a)],q⟩
  ·rw[aH h]at e
   obtain⟨x,c,b⟩:=r.get j u e;exact⟨x,by rw[aH h];exact c,b⟩⟩
end
inductive MM (K:Frag)(xr:XR)(m:Ev)(σ:St)(H:Hp)(Q:VK):Prop
 |mk (φ:a8) (A:Hx) (ρ:En) (S:zu K φ A H) (re:RE K φ H ρ σ) (h:(m ρ A).post (PB K φ H Q) (EB K φ H xr))
noncomputable def tM (K:Frag)(x:XR)(m:Ev):TE:=λσ H Q=>MM K x m σ H Q
inductive MT (K:Frag)(xr:XR)(m:Ev)(σ:St)(H:Hp)(Q:Bool->Hp->Prop):Prop
 |mk (φ:a8) (A:Hx) (ρ:En) (S:zu K φ A H) (re:RE K φ H ρ σ) (h:(m ρ A).post (λw A'=>∃b,w=.bl b/\∀φ' H',Le K φ H φ' H'->zu K φ' A' H'->Q b H') (EB K φ H xr))
noncomputable def tT (K:Frag)(x:XR)(m:Ev):TT:=λσ H Q=>MT K x m σ H Q
abbrev Ea:=En->Hx->R (List W)
inductive MA (K:Frag)(xr:XR)(m:Ea)(σ:St)(H:Hp)(Q:List V->Hp->Prop):Prop
 |mk (φ:a8) (A:Hx) (ρ:En) (S:zu K φ A H) (re:RE K φ H ρ σ) (h:(m ρ A).post (Fd K φ H Q) (EB K φ H xr))
noncomputable def ZQ (K:Frag)(x:XR)(m:Ea):TA:=λσ H Q=>MA K x m σ H Q
def SE (X:Cx)(x:XR)(e:Expr)(m:Ev):Prop:=PE X e (tM X.K x m)
def ST (X:Cx)(x:XR)(e:Expr)(m:Ev):Prop:=PT X e (tT X.K x m)
def SW (X:Cx)(x:XR)(e:Expr)(m:Ev):Prop:=PW X e (tT X.K x m)
def SA (X:Cx)(x:XR)(e:bf)(m:Ea):Prop:=PA X e (ZQ X.K x m)
section
variable {xr:XR}{a b:Expr}{m ma mb mc:Ev}
def PE.imp {t t':TE}(h:PE X e t)(i:∀σ H Q,t' σ H Q->t σ H Q):PE X e t':=λpins s σ H Q I hw=>h pins s σ H Q I (i σ H Q hw)
def PT.imp {t t':TT}(h:PT X e t)(i:∀σ H Q,t' σ H Q->t σ H Q):PT X e t':=λpins s σ H Q I hw=>h pins s σ H Q I (i σ H Q hw)
def PW.imp {t t':TT}(h:PW X e t)(i:∀σ H Q,t' σ H Q->t σ H Q):PW X e t':=λw pins s σ H Q I hw=>h w pins s σ H Q I (i σ H Q hw)
def PA.imp {t t':TA}(h:PA X es t)(i:∀σ H Q,t' σ H Q->t σ H Q):PA X es t':=λp pins s σ H Q I hw=>h p pins s σ H Q I (i σ H Q hw)
def tM.go {K:Frag}{A:Hx}{ρ:En}{Q:VK}{G:W->Hx->Prop}(S:zu K φ A H)(r:RE K φ H ρ σ)(h:(m ρ A).post G (EB K φ H xr))
  (k:∀w A1 a H1 v,G w A1->Le K φ H a H1->zu K a A1 H1->RV K a H1 w v->Q v H1):tM K xr m σ H Q:=
 ⟨φ,A,ρ,S,r,zJ h (λw A1 g a H1 v l s q=>k w A1 a H1 v g l s q) λ_ _ z=>z⟩
def ZQ.go {K:Frag}{A:Hx}{ρ:En}{m:Ea}{Q:List V->Hp->Prop}{G:List W->Hx->Prop}(S:zu K φ A H)(r:RE K φ H ρ σ)(h:(m ρ A).post G (EB K φ H xr))
  (k:∀w A1 a H1 v,G w A1->Le K φ H a H1->zu K a A1 H1->zo K a H1 w v->Q v H1):ZQ K xr m σ H Q:=
 ⟨φ,A,ρ,S,r,zJ h (λw A1 g a H1 v l s q=>k w A1 a H1 v g l s q) λ_ _ z=>z⟩
def tT.go {K:Frag}{A:Hx}{ρ:En}{Q:Bool->Hp->Prop}{G:W->Hx->Prop}(S:zu K φ A H)(r:RE K φ H ρ σ)(h:(m ρ A).post G (EB K φ H xr))
  (k:∀w A1,G w A1->∃b,w=.bl b/\∀a H1,Le K φ H a H1->zu K a A1 H1->Q b H1):tT K xr m σ H Q:=
 ⟨φ,A,ρ,S,r,zJ h (λw A1 g=>k w A1 g) λ_ _ z=>z⟩
noncomputable def jX (i:Nat):Ev:=λρ A=>match ρ[i]? with
 |some (some w)=>.ok w A|_=>.bad
noncomputable def zq (w:W):Ev:=λ_ A=>.ok w A
noncomputable def zA (g:W->W->Hx->R W)(a b:Ev):Ev:=λρ A=>(a ρ A).bind λx A1=>(b ρ A1).bind λy c=>g x y c
noncomputable def qN (g:W->Hx->R W)(a:Ev):Ev:=λρ A=>(a ρ A).bind λx A1=>g x A1
noncomputable abbrev yH:Str->Hx->Prop:=λ_ _=>False
def qO (K:Frag)(r:R2)(g:W->W->Hx->R W):Prop:=∀φ A H x y u v Q,zu K φ A H->RV K φ H u x->RV K φ H v y->(g u v A).post (PB K φ H Q) yH->r x y H Q
def Jj (K:Frag)(r:V->Hp->VK->Prop)(g:W->Hx->R W):Prop:=∀φ A H x u Q,zu K φ A H->RV K φ H u x->(g u A).post (PB K φ H Q) yH->r x H Q
def zR (r:R α):Prop:=∀x A,r≠.exc x A
def we {r:R α}{P:α->Hx->Prop}{E:Str->Hx->Prop}(n:zR r)(h:r.post P E):r.post P yH:=by
 cases r with
 |ok a A=>exact h|exc x A=>exact absurd rfl (n x A)|bad=>exact h
def zA.read {g:W->W->Hx->R W}{r:R2}(hn:∀x y A,zR (g x y A))(e:qO X.K r g):∀σ H Q,tM X.K xr (zA g ma mb) σ H Q->ZO r (tM X.K xr ma) (tM X.K xr mb) σ H Q:=by
 rintro σ H Q ⟨φ,A,ρ,S,re,h⟩
 refine tM.go S re (zC.mp h) λw A1 b H1 v i l1 j d=>?_;refine tM.go j (re.mono l1) (zJ (zC.mp i) (λ_ _ z=>z) λ_ _ z=>z.mono l1) λc l a k v2 f l2 s q=>?_;exact e a l k v v2 w c Q s (d.mono l2) q (zJ (we (hn _ _ _) f) (λ_ _ z=>z.mono (l1.trans l2)) λ_ _ z=>z)
def qN.read {g:W->Hx->R W}{r:V->Hp->VK->Prop}(hn:∀x A,zR (g x A))(b:Jj X.K r g):∀σ H Q,tM X.K xr (qN g ma) σ H Q->VH r (tM X.K xr ma) σ H Q:=by
 rintro σ H Q ⟨φ,A,ρ,S,re,h⟩
 refine tM.go S re (zC.mp h) λw A1 a H1 v c l1 s q=>?_;exact b a A1 H1 v w Q s q (zJ (we (hn _ _) c) (λ_ _ z=>z.mono l1) λ_ _ z=>z)
def YI {op:Operator}{r:R2}{g:W->W->Hx->R W}(h:z7 X (binaryOp op) r)(hn:∀x y A,zR (g x y A))(H:qO X.K r g)(d:SE X xr a ma)(c:SE X xr b mb):SE X xr (.BinOp a op b pos) (zA g ma mb):=
 PE.imp (LH h d c) (zA.read hn H)
def Iu {op:UnaryOp}{r:V->Hp->VK->Prop}{g:W->Hx->R W}(h:Ji X (unaryOp op) r)(hn:∀x A,zR (g x A))(H:Jj X.K r g)(b:SE X xr a ma):SE X xr (.UnaryOp op a pos) (qN g ma):=
 PE.imp (IM h b) (qN.read hn H)
def Xe {r:R2}{g:W->W->Hx->R W}(h:z7 X (compareOp op) r)(hn:∀x y A,zR (g x y A))(H:qO X.K r g)(d:SE X xr a ma)(c:SE X xr b mb)(hm:behindInMarks op b=false):SE X xr (.Compare a [op] [b] pos) (zA g ma mb):=
 PE.imp (Nl h d c hm) (zA.read hn H)
def tT.toM {K:Frag}{Q:Bool->Hp->Prop}(h:tT K xr m σ H Q):tM K xr m σ H λx d=>∃k,x=.bl k/\Q k d:=by
 obtain⟨φ,A,ρ,S,re,h⟩:=h;refine tM.go S re h λw A1 a H1 v ⟨b,e,q⟩ l1 s c=>?_;subst e;exact⟨b,c,q a H1 l1 s⟩
def Xz {r:R2}{g:W->W->Hx->R W}(o:z7 X (compareOp op) r)(hn:∀x y A,zR (g x y A))(c:qO X.K r g)(e:SE X xr a ma)(d:SE X xr b mb)(hm:behindInMarks op b=false):ST X xr (.Compare a [op] [b] pos) (zA g ma mb):=
 PT.imp (Nh o e d hm) λσ H Q h=>zA.read hn c σ H _ h.toM
noncomputable def yx (g g':W->W->Hx->R W)(a b c:Ev):Ev:=λρ A=>(a ρ A).bind λx A1=>(b ρ A1).bind λy f=>(g x y f).bind λz d=>match z with
 |.bl true=>(c ρ d).bind λw e=>g' y w e|.bl false=>.ok (.bl false) d|_=>.bad
def yx.read {g g':W->W->Hx->R W}{r i:R2}(hn:∀x y A,zR (g x y A))(N:qO X.K r g)(j:∀x y A,zR (g' x y A))(n:qO X.K i g'):
  ∀σ H Q,tM X.K xr (yx g g' ma mb mc) σ H Q->YK r i (tM X.K xr ma) (tM X.K xr mb) (tM X.K xr mc) σ H Q:=by
 rintro σ H Q ⟨φ,A,ρ,S,re,h⟩
 refine tM.go S re (zC.mp h) λw A1 C H1 v U l1 S1 M=>?_;refine tM.go S1 (re.mono l1) (zJ (zC.mp U) (λ_ _ z=>z) λ_ _ z=>z.mono l1) λf B b u v2 T l2 Z q=>?_;have L:=l1.trans l2;have o:=zC.mp T;have a:(g w f B).post (PB X.K b u λz c=>∃k,z=.bl k/\if k=true then tM X.K xr mc σ c λE p=>i v2 E p Q else Q (.bl false) c) yH:=by
  refine zJ (we (hn _ _ _) o) (λz A3 a e c zv l3 t J=>?_) λ_ _ z=>z;have l:=L.trans l3;cases z with
  |bl k=>
   refine⟨k,J,?_⟩;cases k with
   |true=>
    rw[af rfl];refine tM.go t (re.mono l) (zJ (zC.mp a) (λ_ _ z=>z) λ_ _ z=>z.mono l) λD A4 d p v4 P s Y I=>?_;exact n d A4 p v2 v4 f D Q Y ((q.mono l3).mono s) I (zJ (we (j _ _ _) P) (λ_ _ z=>z.mono (l.trans s)) λ_ _ z=>z)
   |false=>
    rw[ag ao];exact a e c _ l t rfl
  |non=>cases a|int _=>cases a|str _=>cases a|tup _=>cases a|ref _=>cases a|clo _ _ _=>cases a|xc _=>cases a|fn _=>cases a
 exact N b B u v v2 w f _ Z (M.mono l2) q a
def PV {c:Expr}{o:CmpOp}{r e:R2}{g g':W->W->Hx->R W}(f:z7 X (compareOp op) r)(hn:∀x y A,zR (g x y A))(i:qO X.K r g)(h:z7 X (compareOp o) e)(H:∀x y A,zR (g' x y A))(d:qO X.K e g')
  (l:SE X xr a ma)(k:SE X xr b mb)(j:SE X xr c mc)(hm:lastMarks [op,o] [b,c]=false:=by with_unfolding_all rfl):SE X xr (.Compare a [op,o] [b,c] pos) (yx g g' ma mb mc):=
 PE.imp (PK f h l k j hm) (yx.read hn i H d)
def P4 {c:Expr}{o:CmpOp}{r i:R2}{g g':W->W->Hx->R W}(j:z7 X (compareOp op) r)(hn:∀x y A,zR (g x y A))(k:qO X.K r g)(d:z7 X (compareOp o) i)(e:∀x y A,zR (g' x y A))(f:qO X.K i g')
  (p:SE X xr a ma)(n:SE X xr b mb)(l:SE X xr c mc)(hm:lastMarks [op,o] [b,c]=false:=by with_unfolding_all rfl):ST X xr (.Compare a [op,o] [b,c] pos) (yx g g' ma mb mc):=
 PT.imp (Ob j d p n l hm) λσ H Q h=>yx.read hn k e f σ H _ h.toM
noncomputable def jK (a b:Ev):Ev:=λρ A=>(a ρ A).bind λx A1=>match x with
 |.bl true=>b ρ A1|.bl false=>.ok (.bl false) A1|_=>.bad
noncomputable def Q4 (a b:Ev):Ev:=λρ A=>(a ρ A).bind λx A1=>match x with
 |.bl true=>.ok (.bl true) A1|.bl false=>b ρ A1|_=>.bad
noncomputable def jM (a:Ev):Ev:=λρ A=>(a ρ A).bind λx A1=>match x with
 |.bl k=>.ok (.bl (!k)) A1|_=>.bad
noncomputable def Q5 (c a b:Ev):Ev:=λρ A=>(c ρ A).bind λx A1=>match x with
 |.bl true=>a ρ A1|.bl false=>b ρ A1|_=>.bad
theorem tT.mono {K:Frag}{c:a8}{H1:Hp}{A1:Hx}{ρ:En}{Q:Bool->Hp->Prop}(S:zu K c A1 H1)(l1:Le K φ H c H1)(re:RE K φ H ρ σ)
  (h:(m ρ A1).post (λw A=>∃b,w=.bl b/\∀a d,Le K φ H a d->zu K a A d->Q b d) (EB K φ H xr)):tT K xr m σ H1 Q:=
 ⟨c,A1,ρ,S,re.mono l1,zJ h (λw A ⟨b,e,q⟩=>⟨b,e,λa d l s=>q a d (l1.trans l) s⟩) λ_ _ z=>z.mono l1⟩
noncomputable def zt:Ea:=λ_ A=>.ok [] A
noncomputable def zh (a:Ev)(r:Ea):Ea:=λρ A=>(a ρ A).bind λx A1=>(r ρ A1).bind λxs b=>.ok (x::xs) b
def XA:SA X xr [] zt:=PA.imp qT λσ H Q ⟨φ,A,ρ,S,re,h⟩=>h φ H [] .refl S .nil
def G8 {M:Ea}(d:SE X xr e ma)(r:SA X xr es M)(s:starEach (e::es) X.env=(false,eval e X.env)::starEach es X.env:=by rfl):SA X xr (e::es) (zh ma M):=
 PA.imp (qy d r s) λσ H Q ⟨φ,A,ρ,S,re,h⟩=>by
  refine tM.go S re (zC.mp h) λw A1 b H1 v g l1 j c=>?_;refine ZQ.go j (re.mono l1) (zJ (zC.mp g) (λ_ _ z=>z) λ_ _ z=>z.mono l1) λl n a k v2 f l2 i q=>?_;exact f a k _ (l1.trans l2) i (.cons (c.mono l2) q)
noncomputable def wM (a:Ea):Ev:=λρ A=>(a ρ A).bind λxs A1=>.ok (.tup xs) A1
noncomputable def qe (a:Ea):Ev:=λρ A=>(a ρ A).bind λxs A1=>.ok (.ref A1.length) (A1++[.lst xs])
def gu {K:Frag}{A:Hx}{p:Addr}{ws:List W}(S:zu K φ A H)(h:H p=none)(r:zo K φ H ws vs):
  Le K φ H φ (upd H p (.tup vs))/\zu K φ A (upd H p (.tup vs))/\RV K φ (upd H p (.tup vs)) (.tup ws) (.ref p):=
 ⟨Le.new h,S.lay h,p,vs,rfl,zP.of ql,r.mono (Le.new h)⟩
def wt {K:Frag}{A:Hx}{p:Addr}{ws:List W}(S:zu K φ A H)(h:H p=none)(r:zo K φ H ws vs):
  Le K φ H (φ++[p]) (upd H p (.lst vs))/\zu K (φ++[p]) (A++[.lst ws]) (upd H p (.lst vs))/\RV K (φ++[p]) (upd H p (.lst vs)) (.ref A.length) (.ref p):=by
 have l:Le K φ H (φ++[p]) (upd H p (.lst vs)):=Le.alloc h;obtain⟨b,a⟩:=S.alloc (o:=.lst ws) h ⟨vs,ql,r.mono l⟩;exact⟨b,a,p,rfl,by rw[<- S.len];simp⟩
def Lw {M:Ea}(h:SA X xr es M)(l:∀ρ A ws a,M ρ A=.ok ws a->ws.length<=sizeLine):SE X xr (.List es pos) (qe M):=
 PE.imp (MC h) λσ H Q ⟨φ,A,ρ,S,re,h⟩=>by
  have h':=zC.mp h;cases e:M ρ A with
  |ok ws a=>
   rw[e]at h';refine⟨φ,A,ρ,S,re,?_⟩;rw[e];intro b H1 vs l1 s q;refine⟨by rw[<- q.length];exact l ρ A ws a e,λp c=>?_⟩
   obtain⟨a1,a2,d⟩:=wt s c q;exact h' _ _ _ (l1.trans a1) a2 d
  |exc x a=>rw[e]at h';refine⟨φ,A,ρ,S,re,?_⟩;rw[e];exact h'|bad=>rw[e]at h';exact h'.elim
end
inductive Fl where
 |nx (ρ:En)|rt (w:W)|bk (ρ:En)|ct (ρ:En)
abbrev Ex:=En->Hx->R Fl
def FB (K:Frag)(φ:a8)(H:Hp)(D:Ends):Fl->Hx->Prop
 |.nx ρ,A=>∀a h b,Le K φ H a h->zu K a A h->RE K a h ρ b->D.nx b h|.rt w,A=>∀a h v,Le K φ H a h->zu K a A h->RV K a h w v->D.rt v h|.bk ρ,A=>∀a h b,Le K φ H a h->zu K a A h->RE K a h ρ b->D.bk b h|.ct ρ,A=>∀a h b,Le K φ H a h->zu K a A h->RE K a h ρ b->D.ct b h
def FB.mono {K:Frag}{c:a8}{H1:Hp}{D:Ends}{f:Fl}{A:Hx}(h:FB K φ H D f A)(l:Le K φ H c H1):FB K c H1 D f A:=by
 cases f with
 |nx ρ=>exactλa b v L=>h a b v (l.trans L)|rt ρ=>exactλa b v L=>h a b v (l.trans L)|bk ρ=>exactλa b v L=>h a b v (l.trans L)|ct ρ=>exactλa b v L=>h a b v (l.trans L)
inductive MS (K:Frag)(xr:XR)(m:Ex)(D:Ends)(σ:St)(H:Hp):Prop
 |mk (φ:a8) (A:Hx) (ρ:En) (S:zu K φ A H) (re:RE K φ H ρ σ) (h:(m ρ A).post (FB K φ H D) (EB K φ H xr))
noncomputable def tS (K:Frag)(x:XR)(m:Ex):TS:=λD σ H=>MS K x m D σ H
def SS (X:Cx)(x:XR)(st:Stmt)(m:Ex):Prop:=PS X st (tS X.K x m)
def gN (X:Cx)(x:XR)(st:br)(m:Ex):Prop:=jb X st (tS X.K x m)
section
variable {xr:XR}{a b c:Expr}{st:Stmt}{rest:br}{m:Ev}{m1 m2:Ex}
def PS.imp {t t':TS}(h:PS X st t)(i:∀D σ H,t' D σ H->t D σ H):PS X st t':=λpins s σ H D I hw=>h pins s σ H D I (i D σ H hw)
def jb.imp {t t':TS}(h:jb X rest t)(i:∀D σ H,t' D σ H->t D σ H):jb X rest t':=λpins s σ H D I hw=>h pins s σ H D I (i D σ H hw)
noncomputable def zy:Ex:=λρ A=>.ok (.nx ρ) A
noncomputable def zl (a M:Ex):Ex:=λρ A=>(a ρ A).bind λl A1=>match l with
 |.nx ρ1=>M ρ1 A1|f=>.ok f A1
noncomputable def qV (m:Ev):Ex:=λρ A=>(m ρ A).bind λ_ A1=>.ok (.nx ρ) A1
noncomputable def zY (m:Ev):Ex:=λρ A=>(m ρ A).bind λw A1=>.ok (.rt w) A1
noncomputable def qv (c:Ev)(a b:Ex):Ex:=λρ A=>(c ρ A).bind λx A1=>match x with
 |.bl true=>a ρ A1|.bl false=>b ρ A1|_=>.bad
noncomputable def zS (i:Nat)(m:Ev):Ex:=λρ A=>(m ρ A).bind λw A1=>.ok (.nx (ρ.set i (some w))) A1
def zS.read:∀D σ H,tS X.K xr (zS i m) D σ H->QX (tM X.K xr m) (Zi i) D σ H:=by
 rintro D σ H ⟨φ,A,ρ,S,re,h⟩
 exact tM.go S re (zC.mp h) λw A1 a H1 v b l1 s q=>b a H1 _ l1 s ((re.mono l1).set q)
noncomputable def Qt (g:W->W->W->Hx->R Unit)(me mo mi:Ev):Ex:=λρ A=>(me ρ A).bind λv A1=>(mo ρ A1).bind λo c=>(mi ρ c).bind λi b=>(g o i v b).bind λ_ a=>.ok (.nx ρ) a
def XI (K:Frag)(t:wJ)(g:W->W->W->Hx->R Unit):Prop:=∀φ A H o i v w b wv Q,zu K φ A H->RV K φ H w o->RV K φ H b i->RV K φ H wv v->
 (g w b wv A).post (λ_ c=>∀a h,Le K φ H a h->zu K a c h->Q h) yH->t o i v H Q
def PM {o i:Expr}{mo mi:Ev}{t:wJ}{g:W->W->W->Hx->R Unit}(E:QZ X t)(hn:∀o i v A,zR (g o i v A))(N:XI X.K t g)(he:SE X xr e m)(J:SE X xr o mo)(M:SE X xr i mi)
  (I:swapsWithSole [.Subscript o i tpos] e pos.line X.env=pure false:=by rfl)(hw:swappedStores [.Subscript o i tpos] e X.env=pure none:=by rfl)
  (d:(assignEach [.Subscript o i tpos] X.env).map (·.2)=[assign (.Subscript o i tpos) X.env]:=by rfl)
  (P:∀v,assign (.Subscript o i tpos) X.env v=(do
   let ov <- holding [v] (eval o X.env)
   let iv <- holding [v,ov] (eval i X.env)
   standAt tpos
   holding [v,ov,iv] (setItem ov iv v)
   release [v,ov,iv] []):=by intro _;rfl):SS X xr (.Assign [.Subscript o i tpos] e pos) (Qt g m mo mi):=
 PS.imp (YM he (Lb J M E P) I hw d) λD σ H ⟨φ,A,ρ,S,re,h⟩=>by
  refine tM.go S re (zC.mp h) λj A1 s H1 v1 d l1 S1 C=>?_;refine tM.go S1 (re.mono l1) (zJ (zC.mp d) (λ_ _ z=>z) λ_ _ z=>z.mono l1) λf A2 q H2 v2 T l2 Z B=>?_;have l:=l1.trans l2;refine tM.go Z (re.mono l) (zJ (zC.mp T) (λ_ _ z=>z) λ_ _ z=>z.mono l) λw p c H3 y a l3 Y Q=>?_;have L:=l.trans l3;refine N c p H3 v2 y v1 f w j _ Y (B.mono l3) Q (C.mono (l2.trans l3)) ?_;cases r:g f w j p with
  |ok u n=>
   rw[r]at a;exactλb H4 k U=>a b H4 σ (L.trans k) U (re.mono (L.trans k))
  |exc x n=>exact absurd r (hn _ _ _ _ x n)|bad=>rw[r]at a;exact a.elim
structure qM where
 at_:Hx->Nat->Option (Option W)
 len:Nat
def kz (K:Frag)(φ:a8)(H:Hp)(j:qM)(J:It):Prop:=∀i a h A,kD K φ H a h->zu K a A h->
 (∀w,j.at_ A i=some (some w)->J.go i h/\∀x H1,J.yld i h x H1->Le K a h a H1/\zu K a A H1/\RV K a H1 w x)/\(j.at_ A i=some none->J.stop i h)
abbrev Ei:=En->Hx->R qM
inductive MI (K:Frag)(xr:XR)(mi:Ei)(σ:St)(H:Hp)(Rr:It->Hp->Prop):Prop
 |mk (φ:a8) (A:Hx) (ρ:En) (S:zu K φ A H) (re:RE K φ H ρ σ) (h:(mi ρ A).post (λj A1=>∀φ1 H1 J,Le K φ H φ1 H1->zu K φ1 A1 H1->kz K φ1 H1 j J->Rr J H1) (EB K φ H xr))
noncomputable def tI (K:Frag)(x:XR)(mi:Ei):TI:=λσ H r=>MI K x mi σ H r
def SI (X:Cx)(x:XR)(t iter:Expr)(mi:Ei):Prop:=PI X t iter (tI X.K x mi)
def PI.imp {t t':TI}(h:PI X tg e t)(i:∀σ H Q,t' σ H Q->t σ H Q):PI X tg e t':=λpins s σ H Q I hw=>h pins s σ H Q I (i σ H Q hw)
abbrev Tg:=W->En->Option En
inductive MG (K:Frag)(tw:Tg)(v:V)(σ:St)(H:Hp)(Q:St->Hp->Prop):Prop
 |mk (φ:a8) (A:Hx) (ρ:En) (w:W) (ρ':En) (S:zu K φ A H) (re:RE K φ H ρ σ) (rv:RV K φ H w v) (t:tw w ρ=some ρ') (q:∀σ',RE K φ H ρ' σ'->Q σ' H)
noncomputable def tG (K:Frag)(t:Tg):TG:=λv σ H Q=>MG K t v σ H Q
def SG (X:Cx)(T:Expr)(t:Tg):Prop:=PG X T (tG X.K t)
def PG.imp {t t':TG}(h:PG X tg t)(i:∀v σ H Q,t' v σ H Q->t v σ H Q):PG X tg t':=λpins s σ H v u Q I r hw=>h pins s σ H v u Q I r (i v σ H Q hw)
noncomputable def qb (i:Nat):Tg:=λw ρ=>some (ρ.set i (some w))
noncomputable def j7 (i j:Nat):Tg:=λw ρ=>match w with
 |.tup [x,y]=>some ((ρ.set i (some x)).set j (some y))|_=>none
noncomputable def jz (j:qM)(st:W->Ex):Nat->Nat->Ex
 |0,i,ρ,A=>match j.at_ A i with
  |some none=>.ok (.nx ρ) A|_=>.bad
 |f+1,i,ρ,A=>match j.at_ A i with
  |some none=>.ok (.nx ρ) A|some (some w)=>(st w ρ A).bind λl A1=>match l with
   |.nx ρ1=>jz j st f (i+1) ρ1 A1|.ct ρ1=>jz j st f (i+1) ρ1 A1|.bk ρ1=>.ok (.nx ρ1) A1|.rt w=>.ok (.rt w) A1
  |none=>.bad
noncomputable def turn (t:Tg)(body:Ex)(w:W):Ex:=λρ A=>match t w ρ with
 |some ρ1=>body ρ1 A|none=>.bad
def jB (mi:Ei)(t:Tg)(body:Ex):Ex:=λρ A=>(mi ρ A).bind λj A1=>jz j (turn t body) j.len 0 ρ A1
inductive Vv (K:Frag)(xr:XR)(j:qM)(t:W->Ex)(D:Ends)(φ1:a8)(H1:Hp)(f i:Nat)(σ':St)(H':Hp):Prop
 |mk (φ2:a8) (A2:Hx) (ρ2:En) (l:Le K φ1 H1 φ2 H') (S:zu K φ2 A2 H') (re:RE K φ2 H' ρ2 σ') (h:(jz j t f i ρ2 A2).post (FB K φ2 H' D) (EB K φ2 H' xr))
noncomputable def gB (nl:Nat)(cap:ba)(ρ:En):En:=List.replicate nl none++cap.map λi=>(ρ[i]?).join
theorem RE.yW {K:Frag}{ρ:En}{nl:Nat}{cap:ba}(r:RE K φ H ρ σ):RE K φ H (gB nl cap ρ) (L2.yW nl cap σ):=by
 refine⟨by simp[gB,L2.yW],λi w e=>?_⟩
 unfold gB at e;unfold L2.yW
 by_cases hi:i<nl
 ·rw[ae (by simpa using hi),aS]at e
  split at e<;>cases e
 ·rw[ai (by simpa using hi),aZ,aK]at e
  rw[ai (by simpa using hi),aZ,aK]
  cases c:cap[i-nl]? with
  |none=>rw[c]at e;cases e|some k=>
   rw[c]at e;have E:(ρ[k]?).join=some w:=aj e;cases h:ρ[k]? with
   |none=>rw[h]at E;cases E|some o=>cases o with
    |none=>rw[h]at E;cases E|some d=>
     rw[h]at E;cases E;obtain⟨v,b,a⟩:=r.get k w h;exact⟨v,by simp[b],a⟩
abbrev Em:=En->List W->Hx->R (En×List W)
noncomputable def qm:Nat:=100000
def qo (elt:Ev):Em:=λρ acc A=>(elt ρ A).bind λy A1=>if acc.length<qm then .ok (ρ,acc++[y]) A1 else .bad
noncomputable def ju (j:qM)(t:Tg)(ifs:Ev)(em:Em):Nat->Nat->Em
 |0,i,ρ,acc,A=>match j.at_ A i with
  |some none=>.ok (ρ,acc) A|_=>.bad
 |f+1,i,ρ,acc,A=>match j.at_ A i with
  |some none=>.ok (ρ,acc) A|some (some w)=>match t w ρ with
   |some ρ1=>(ifs ρ1 A).bind λc A1=>match c with
    |.bl true=>(em ρ1 acc A1).bind λp a=>ju j t ifs em f (i+1) p.1 p.2 a|.bl false=>ju j t ifs em f (i+1) ρ1 acc A1|_=>.bad
   |none=>.bad
  |none=>.bad
def XH (mi:Ei)(t:Tg)(ifs:Ev)(em:Em):Em:=λρ acc A=>(mi ρ A).bind λj A1=>ju j t ifs em j.len 0 ρ acc A1
abbrev qJ:=En->Hx->R (List W)
def qg (nl:Nat)(cap:ba)(mi:Ei)(t:Tg)(ifs:Ev)(em:Em):qJ:=λρ A=>(mi ρ A).bind λj A1=>(ju j t ifs em j.len 0 (gB nl cap ρ) [] A1).nox.bind λp a=>.ok p.2 a
def Kh (K:Frag)(D:Addr)(φ:a8)(H:Hp)(Q:St->Hp->Prop)(p:En×List W)(A1:Hx):Prop:=∀a H1 b zs,ja K D φ H a H1->(∀k:Nat,a[k]?≠some D)->zu K a A1 H1->RE K a H1 p.1 b->H1 D=some (.lst zs)->zo K a H1 p.2 zs->Q b H1
inductive ME (K:Frag)(em:Em)(D:Addr)(σ:St)(H:Hp)(Q:St->Hp->Prop):Prop
 |mk (φ:a8) (A:Hx) (ρ:En) (acc:List W) (ys:List V) (S:zu K φ A H) (re:RE K φ H ρ σ) (hD:H D=some (.lst ys)) (nD:∀k:Nat,φ[k]?≠some D) (rv:zo K φ H acc ys)
  (h:(em ρ acc A).post (Kh K D φ H Q) yH)
noncomputable def tE (K:Frag)(em:Em):yd:=λD σ H Q=>ME K em D σ H Q
noncomputable abbrev qx:XR:=λ_ _=>False
def SM (X:Cx)(elt:Expr)(gens:List Comprehension)(sc:Scope)(c:Pos)(d:Nat)(em:Em):Prop:=j3 X elt gens sc c d (tE X.K em)
def j3.imp {d:Nat}{t t':yd}(h:j3 X elt gens sc pos d t)(i:∀D σ H Q,t' D σ H Q->t D σ H Q):j3 X elt gens sc pos d t':=
 λpins s σ H D Q k Q' E I hw a=>h pins s σ H D Q k Q' E I (i D σ H Q hw) a
def JY {K:Frag}{r:R α}{P:α->Hx->Prop}(h:r.post P yH):r.post P (EB K φ H qx):=zJ h (λ_ _ z=>z) λ_ _ z=>z.elim
def ZM (X:Cx)(ifs:bf)(m:Ev):Prop:=km X ifs (tT X.K qx m)
inductive Vt (tw:Tg)(ifs:Ev)(em:Em)(j:qM)(K:Frag)(D:Addr)(φ:a8)(H:Hp)(Q:St->Hp->Prop)(f i:Nat)(σ':St)(H':Hp):Prop
 |mk (φ2:a8) (A2:Hx) (ρ2:En) (acc2:List W) (ys2:List V) (l:ja K D φ H φ2 H') (S:zu K φ2 A2 H') (re:RE K φ2 H' ρ2 σ') (hD:H' D=some (.lst ys2)) (nD:∀k:Nat,φ2[k]?≠some D) (ra:zo K φ2 H' acc2 ys2) (h:(ju j tw ifs em f i ρ2 acc2 A2).post (Kh K D φ H Q) yH)
def ju.read {t:Tg}{ifs:Ev}{em:Em}{j:qM}{J:It}{K:Frag}{A:Hx}{ρ:En}{acc:List W}{Q:St->Hp->Prop}{f:Nat}
  (jr:kz K φ H j J)
  (S:zu K φ A H)(re:RE K φ H ρ σ)(hD:H D=some (.lst ys))(nD:∀k:Nat,φ[k]?≠some D)(ra:zo K φ H acc ys)
  (h:(ju j t ifs em f 0 ρ acc A).post (Kh K D φ H Q) yH):
  Zm J (tG K t) (tT K qx ifs) (tE K em) D σ H Q:=by
 refine⟨λi f d M=>Vt t ifs em j K D φ H Q f i d M,
  ⟨f,φ,A,ρ,acc,ys,.refl,S,re,hD,nD,ra,h⟩,?_⟩
 rintro i f T H2 ⟨g,A2,s,e,Y,l2,S2,u,I,v,n,a⟩
 obtain⟨j1,j2⟩:=jr i g H2 A2 ⟨l2.ex,l2.tp,l2.fz⟩ S2;cases E:j.at_ A2 i with
 |none=>cases f<;>(unfold ju at a;rw[E]at a;exact a.elim)|some o=>
  cases o with
  |none=>
   left
   refine⟨j2 E,?_⟩;cases f<;>(unfold ju at a;rw[E]at a;exact a g H2 T Y l2 v S2 u I n)
  |some w=>
   right
   obtain⟨go,yl⟩:=j1 w E;cases f with
   |zero=>unfold ju at a;rw[E]at a;exact a.elim|succ f=>
    unfold ju at a;rw[E]at a;refine⟨go,λd M=>Vt t ifs em j K D φ H Q f (i+1) d M,λd M z=>⟨f,aV _,z⟩,λx H3 y=>?_⟩;obtain⟨l3,S3,q3⟩:=yl x H3 y;obtain⟨Z,X⟩:=l3.off I v;dsimp only at a;cases et:t w s with
    |none=>rw[et]at a;exact a.elim|some l=>
     rw[et]at a;refine⟨g,A2,s,w,l,S3,u.mono l3,q3,et,λσ3 r=>?_⟩;refine tT.go S3 r (JY (zC.mp a)) λc A4 b=>?_;cases c with
     |bl k=>
      refine⟨k,rfl,λq H4 L S4=>?_⟩;obtain⟨C,N⟩:=L.off Z X;have B:=(l2.trans (l3.trans L).toD);cases k with
      |true=>
       rw[af rfl];refine⟨q,A4,l,e,Y,S4,r.mono L,C,N,n.mono (l3.trans L),zJ (zC.mp b) (λp A5 h5 P H5 σ5 zs l5 n5 S5 U d5 r5=>?_) λ_ _ z=>z⟩;exact⟨P,A5,p.1,p.2,zs,B.trans l5,S5,U,d5,n5,r5,h5⟩
      |false=>
       rw[ag ao];exact⟨q,A4,l,e,Y,B,S4,r.mono L,C,N,n.mono (l3.trans L),b⟩
     |non=>cases b|int _=>cases b|str _=>cases b|tup _=>cases b|ref _=>cases b|clo _ _ _=>cases b|xc _=>cases b|fn _=>cases b
def kz.mono {K:Frag}{b:a8}{H1:Hp}{j:qM}{J:It}(h:kz K φ H j J)(l:kD K φ H b H1):kz K b H1 j J:=
 λi c d A L=>h i c d A ⟨λn a e=>L.ex n a (l.ex n a e),λa vs e=>L.tp a vs (l.tp a vs e),λa o u e=>L.fz a o u (l.fz a o u e)⟩
inductive MF (K:Frag)(xr:XR)(mq:qJ)(σ:St)(H:Hp)(Q:VK):Prop
 |mk (φ:a8) (A:Hx) (ρ:En) (S:zu K φ A H) (re:RE K φ H ρ σ) (h:(mq ρ A).post (λws A1=>∀φ1 H1 D ys,Le K φ H φ1 H1->zu K φ1 A1 H1->H D=none->H1 D=some (.lst ys)->(∀k:Nat,φ1[k]?≠some D)->zo K φ1 H1 ws ys->Q (.ref D) H1) (EB K φ H xr))
noncomputable def tF (K:Frag)(x:XR)(M:qJ):TE:=λσ H Q=>MF K x M σ H Q
def SF (X:Cx)(x:XR)(e:Expr)(M:qJ):Prop:=PE X e (tF X.K x M)
theorem qg.read {mi:Ei}{t:Tg}{M:Ev}{em:Em}{nl:Nat}{cap:ba}:∀σ H Q,tF X.K xr (qg nl cap mi t M em) σ H Q->Qw X.K (tI X.K xr mi) (tG X.K t) (tT X.K qx M) (tE X.K em) nl cap σ H Q:=by
 rintro σ H Q ⟨φ,A,ρ,S,re,h⟩
 refine⟨φ,A,ρ,S,re,zJ (zC.mp h) (λj A1 q b H1 J l1 s k D c o=>?_) λ_ _ z=>z⟩;have ln:Le X.K b H1 b (upd H1 D (.lst [])):=Le.new c;have a:=zC.mp q;refine ju.read (k.mono ⟨ln.ex,ln.tp,ln.fz⟩) (s.lay c) ((re.mono (l1.trans ln)).yW) ql (s.notin c o) .nil ?_ (f:=j.len) (acc:=[]);cases e:ju j t M em j.len 0 (gB nl cap ρ) [] A1 with
 |ok p y=>
  rw[e]at a;intro d w g zs l2 n v r u i;have l:=l1.trans (Le.ofD c l2);exact a d w D zs l v (l1.st D c) u n i
 |exc x y=>rw[e]at a;exact a.elim|bad=>rw[e]at a;exact a.elim
noncomputable def jy (q:qJ):Ev:=λρ A=>(q ρ A).bind λws A1=>.ok (.ref A1.length) (A1++[.lst ws])
def jy.read {q:qJ}{K:Frag}:∀σ H Q,tM K xr (jy q) σ H Q->tF K xr q σ H Q:=by
 rintro σ H Q ⟨φ,A,ρ,S,re,h⟩
 refine⟨φ,A,ρ,S,re,zJ (zC.mp h) (λws A1 d b H1 D ys l1 s h0 c N r=>?_) λ_ _ z=>z⟩;have l:Le K φ H (b++[D]) H1:=l1.gy h0;have lw:kD K b H1 (b++[D]) H1:=⟨λn a h=>by
  have:=(bx.mp h).1
  rw[ae this];exact h,λ_ _ h=>h,λ_ _ _ h=>h⟩
 refine d _ _ _ l (s.gy (o:=.lst ws) c N ⟨ys,c,r.monoW lw⟩) ⟨D,rfl,?_⟩;rw[<- s.len];simp
inductive MQ (K:Frag)(xr:XR)(mq:qJ)(σ:St)(H:Hp)(Q:VK):Prop
 |mk (φ:a8) (A:Hx) (ρ:En) (S:zu K φ A H) (re:RE K φ H ρ σ) (h:(mq ρ A).post (λws A1=>∀φ1 H1 a ys,Le K φ H φ1 H1->zu K φ1 A1 H1->(z8 K H1 a ys∨zP K H1 a ys)->zo K φ1 H1 ws ys->Q (.ref a) H1) (EB K φ H xr))
noncomputable def tQ (K:Frag)(x:XR)(M:qJ):TE:=λσ H Q=>MQ K x M σ H Q
def SQ (X:Cx)(x:XR)(e:Expr)(M:qJ):Prop:=PE X e (tQ X.K x M)
noncomputable def zM (w:W)(A:Hx):Option (List W):=match w with
 |.tup ws=>some ws|.ref n=>match A[n]? with
  |some (.lst ws)=>some ws|some (.ro ws)=>some ws|_=>none
 |_=>none
def Z3 {K:Frag}{A:Hx}{w:W}{ws:List W}(S:zu K φ A H)(q:RV K φ H w v)(e:zM w A=some ws):∃a ys,v=.ref a/\(z8 K H a ys∨zP K H a ys)/\zo K φ H ws ys:=by
 unfold zM at e;cases w with
 |tup xs=>cases e;obtain⟨a,ys,b,d,E⟩:=q;exact⟨a,ys,b,.inr d,E⟩|ref n=>
  obtain⟨a,b,d⟩:=q;dsimp only at e;cases ea:A[n]? with
  |none=>rw[ea]at e;cases e|some o=>
   rw[ea]at e;obtain⟨f,E,r⟩:=S.ob n o ea;rw[d]at E;cases E;cases o with
   |lst xs=>cases e;obtain⟨ys,c,h⟩:=r;exact⟨a,ys,b,.inl (z8.of c),h⟩|ro xs=>cases e;obtain⟨ys,c,h⟩:=r;exact⟨a,ys,b,.inl c.sq,h⟩|dct xs=>cases e|td _=>cases e|tr _=>cases e|tab _ _=>cases e|ins _ _=>cases e
 |non=>cases e|bl _=>cases e|clo _ _ _=>cases e|xc _=>cases e|fn _=>cases e|int _=>cases e|str _=>cases e
def yb (m:Ev):qJ:=λρ A=>(m ρ A).bind λw A1=>match zM w A1 with
 |some ws=>.ok ws A1|none=>.bad
def Y7 (w:W)(A:Hx):Option qM:=match zM w A with
 |some ws=>some ⟨λA i=>(zM w A).map λws=>ws[i]?,ws.length⟩|none=>none
def qw (m:Ev):Ei:=λρ A=>(m ρ A).bind λw A1=>match Y7 w A1 with
 |some j=>.ok j A1|none=>.bad
def Hy (K:Frag)(t:TE):TI:=λσ H r=>t σ H λx H1=>∃a,x=.ref a/\(((∃xs,z8 K H1 a xs)/\r (Vq K a) H1)∨((∃xs,zP K H1 a xs)/\r (VI K a) H1))
def MJ {l:Expr}{t:TE}(j:PE X l t):PI X tg l (Hy X.K t):=by
 intro pins s σ H n I h;refine zw (j pins s σ H _ I h) λv s1 ⟨x,H1,i,g,Q⟩=>?_;obtain⟨a,e,q⟩:=Q;subst e;cases g;have f:∀b∈[s1.heap.objs.size],jN X pins H1 b:=λb k=>by
  have e:b=s1.heap.objs.size:=by simpa using k
  subst e;exact i.fpOk (ak _) (i.hok.fresh (ak _))
 rcases q with ⟨⟨xs,d⟩,q⟩|⟨⟨xs,d⟩,q⟩
 ·obtain⟨c,r,p,z⟩:=i.list d
  refine wpAny_pyIter_list p.isList ?_;exact⟨s1.heap.objs.size,[s1.heap.objs.size],_,_,H1,rfl,i.kept (t':=s1.toks) λb o e=>aa _ e,RL a _,⟨_,ah _ rfl,rfl,rfl⟩,f,q⟩
 ·obtain⟨c,r,p,z⟩:=i.tuple d
  refine wpAny_pyIter_tuple (show s1.heap.IsTuple a c.toArray from p) ?_
  exact⟨s1.heap.objs.size,[s1.heap.objs.size],_,_,H1,rfl,i.kept (t':=s1.toks) λb o e=>aa _ e,SK a _,⟨_,ah _ rfl,rfl,rfl⟩,f,q⟩
noncomputable def kQ (lo:Int)(n:Nat):qM:=⟨λ_ i=>if i<n then some (some (.int (lo+i))) else some none,n⟩
def NI {K:Frag}{lo:Int}:kz K φ H (kQ lo n) (Ja lo n):=λi a h A lw S=>by
 unfold kQ;dsimp only
 by_cases hi:i<n
 ·rw[af hi]
  refine⟨λw e=>?_,λe=>by cases e⟩
  cases e;exact⟨hi,λx H1 ⟨b,E⟩=>by subst b;exact⟨.refl,S,E⟩⟩
 ·rw[ag hi]
  exact⟨λw e=>(by cases e),λ_=>Nat.le_of_not_lt hi⟩
noncomputable def kI (i:Int):Bool:=decide (-(2 ^ 62)<=i)&&decide (i<2 ^ 62)
def JI {i:Int}(h:kI i=true):-(2 ^ 62)<=i/\i<2 ^ 62:=by
 unfold kI at h;rw[aq,ay,ay]at h;exact h
def Zr (m:Ev):Ei:=λρ A=>(m ρ A).bind λw A1=>match w with
 |.int j=>if kI j then .ok (kQ 0 j.toNat) A1 else .bad|_=>.bad
end
abbrev Fn:=List W->Hx->R W
def qZ (K:Frag)(x:Str)(C:Value):Prop:=nsIn K mainGlobals x=some (some C)
def XE (K:Frag)(E:XK)(x:Str)(H:Hp):Prop:=∀C d,qZ K x C->E C d H
inductive yn (K:Frag)(n:Nat)(f:Fn)(vs:List V)(H:Hp)(Q:VK)(E:XK):Prop
 |mk (len:vs.length=n) (φ:a8) (A:Hx) (ws:List W) (S:zu K φ A H) (r:zo K φ H ws vs) (q:(f ws A).post (PB K φ H Q) (EB K φ H (XE K E)))
def yn.len {K:Frag}{f:Fn}{Q:VK}{E:XK}(h:yn K n f vs H Q E):vs.length=n:=by cases h;assumption
inductive zL (P:Program)(w:World)(K:Frag)(mg:bh)(base:Heap)(k:Nat)(x:Str)(n:Nat)(f:Fn):Prop
 |mk (fa:Addr) (fd:FuncData) (ps:bb) (F:qA P w K mg base jS k fa fd ps (yn K n f)) (at_:mg x=some (.ref fa)) (kp:keepIn K (.ref fa)=true) (bi:Binds K fd ps [])
noncomputable def z0 (f:Fn)(a:Ea):Ev:=λρ A=>(a ρ A).bind λws A1=>f ws A1
section
variable {m ma:Ev}
def jV (m:Ea)(n:Nat):Prop:=∀ρ A ws a,m ρ A=.ok ws a->ws.length=n
def zN:jV zt 0:=λ_ _ _ _ h=>by unfold zt at h;cases h;rfl
def zp {M:Ea}(h:jV M n):jV (zh ma M) (n+1):=λρ A ws b e=>by
 unfold zh at e;cases h1:ma ρ A with
 |ok x A1=>
  rw[h1,qc]at e;cases H:M ρ A1 with
  |ok xs a=>rw[H,qc]at e;cases e;simp[h ρ A1 xs _ H]|exc x a=>rw[H]at e;cases e|bad=>rw[H]at e;cases e
 |exc x A1=>rw[h1]at e;cases e|bad=>rw[h1]at e;cases e
end
noncomputable def qu (n:Nat)(m:Ex):Fn:=λws A=>(m (ws.map some++List.replicate (n-ws.length) none) A).nox.bind λf A1=>match f with
 |.rt w=>.ok w A1|.nx _=>.ok .non A1|_=>.bad
theorem RE.start {K:Frag}{ws:List W}(h:zo K φ H ws vs):RE K φ H (ws.map some++List.replicate (N.length-ws.length) none) (L2.start N vs):=by
 unfold L2.start;refine⟨by simp[h.length],λi w e=>?_⟩
 by_cases hi:i<ws.length
 ·rw[ae (by simpa using hi),aK]at e
  cases hw:ws[i]? with
  |none=>rw[hw]at e;cases e|some c=>
   rw[hw]at e;cases e;obtain⟨v,b,a⟩:=h.get hw;refine⟨v,?_,a⟩;rw[ae (by rw[aL,<- h.length];exact hi),aK,b];rfl
 ·rw[ai (by simpa using hi),aS]at e
  split at e<;>cases e
section
variable {K:Frag}
theorem zL.mono {f:Fn}(F:zL P w K mg base j x n f)(h:j<=k):zL P w K mg base k x n f:=by cases F with|mk d fd p F a b c=>exact⟨d,fd,p,F.mono h,a,b,c⟩
theorem zL.imp {f g:Fn}(F:zL P w K mg base k x n f)(h:∀ws A,ws.length=n->g ws A=.bad∨f ws A=g ws A):zL P w K mg base k x n g:=by
 obtain⟨d,fd,p,F,a,b,c⟩:=F;refine⟨d,fd,p,F.imp λvs H Q E ⟨l,φ,A,ws,S,r,q⟩=>⟨l,φ,A,ws,S,r,?_⟩,a,b,c⟩;rcases h ws A (by rw[r.length];exact l) with e|e
 ·rw[e]at q;exact q.elim
 ·rw[e];exact q
end
section
variable {K:Frag}
def qr {a:α}{A:Hx}:zR (R.ok a A):=λ_ _ h=>by cases h
def zT:zR (R.bad:R α):=λ_ _ h=>by cases h
def j4 {c:Prop} [Decidable c] {a b:R α}(H:zR a)(h:zR b):zR (if c then a else b):=by split<;>assumption
noncomputable def gI (f:Int->Int->W):W->W->Hx->R W
 |.int i,.int j,A=>.ok (f i j) A|_,_,_=>.bad
def YZ {f:Int->Int->W}:∀x y A,zR (gI f x y A):=λx y A=>by
 unfold gI;split
 ·exact qr
 ·exact zT
noncomputable def gO (c:Int->Int->Bool)(f:Int->Int->W):W->W->Hx->R W
 |.int i,.int j,A=>if c i j then .ok (f i j) A else .bad|_,_,_=>.bad
def L9 {c:Int->Int->Bool}{f:Int->Int->W}:∀x y A,zR (gO c f x y A):=λx y A=>by
 unfold gO;split
 ·exact j4 qr zT
 ·exact zT
def YL {f:Int->Int->W}{g:Int->Int->V}(h:∀i j φ H,RV K φ H (f i j) (g i j)):qO K (kY g) (gI f):=λφ A H x y u v Q S a q p=>by
 cases u with
 |int i=>cases v with
  |int j=>obtain rfl:=a;obtain rfl:=q;exact⟨i,j,rfl,rfl,p φ H _ .refl S (h i j φ H)⟩|_=>exact p.elim
 |_=>exact p.elim
def NW {c:Int->Int->Bool}{C:Int->Int->Prop}{f:Int->Int->W}{g:Int->Int->V}(d:∀i j,c i j=true->C i j)(h:∀i j φ H,RV K φ H (f i j) (g i j)):qO K (rI C g) (gO c f):=λφ A H x y u v Q S b q p=>by
 cases u with
 |int i=>cases v with
  |int j=>
   obtain rfl:=b;obtain rfl:=q;unfold gO at p;dsimp only at p
   by_cases a:c i j=true
   ·rw[af a]at p;exact⟨i,j,rfl,rfl,d i j a,p φ H _ .refl S (h i j φ H)⟩
   ·rw[ag a]at p;exact p.elim
  |_=>exact p.elim
 |_=>exact p.elim
noncomputable def QN (i j:Int):Bool:=(decide (-(2 ^ 64)<i)&&decide (i<2 ^ 64)) || (decide (-(2 ^ 64)<j)&&decide (j<2 ^ 64))
noncomputable def QO (_ j:Int):Bool:=decide (0<j)
def ON (i j:Int)(h:QN i j=true):Zx i j:=by
 unfold QN at h;simp only[or_eq_true,aq,decide_eq_true_eq]at h;exact h
def O5 (i j:Int)(h:QO i j=true):(λ_ j=>0<j) i j:=by
 unfold QO at h;simpa using h
def kj:=gO QO λi j=>.int (i%j)
def Kk:=gI λi j=>.bl (decide (i<j))
def ZJ:=gI λi j=>.bl (decide (i<=j))
def VG:=gI λi j=>.bl (decide (j<i))
variable {a b c:Expr}
noncomputable def ZH:W->Hx->R W
 |.int i,A=>.ok (.int (-i)) A|_,_=>.bad
structure j8 (X:Cx)(op:CmpOp)(g:W->W->Hx->R W):Prop where
 ex:∃r:R2,z7 X (compareOp op) r/\(∀x y A,zR (g x y A))/\qO X.K r g
 mks:∀b,op≠.In->op≠.NotIn->behindInMarks op b=false
def gw {r:R2}{g:W->W->Hx->R W}(a:z7 X (compareOp op) r)(H:∀x y A,zR (g x y A))(h:qO X.K r g):j8 X op g:=⟨⟨r,a,H,h⟩,λb a1 a2=>PH b a1 a2⟩
def Vk:j8 X .Lt Kk:=gw IT YZ (YL λ_ _ _ _=>rfl)
def QH:j8 X .LtE ZJ:=gw L7 YZ (YL λ_ _ _ _=>rfl)
def Hm:j8 X .Gt VG:=gw LO YZ (YL λ_ _ _ _=>rfl)
end
inductive Ty where
 |non|bl|int|str|tup|lst|dct
 deriving DecidableEq
noncomputable def Ty.nm:Ty->String
 |.non => "NoneType" | .bl => "bool" | .int => "int" | .str => "str" | .tup => "tuple" | .lst => "list" | .dct => "dict"
noncomputable def wU (w:W)(A:Hx):Option Ty:=match w with
 |.non=>some .non|.bl _=>some .bl|.int _=>some .int|.str _=>some .str|.tup _=>some .tup|.ref n=>match A[n]? with
  |some (.lst _)=>some .lst|some (.dct _)=>some .dct|_=>none
 |_=>none
noncomputable def wO (a b:Ty):Bool:=a==b || (a==.bl&&b==.int)
def G3 {K:Frag}(a b:Ty):kitOne K (.type a.nm) (.type b.nm)=some (wO a b):=by
 cases a<;>cases b<;>rfl
section
variable {xr:XR}{K:Frag}{a c:Expr}{m:Ev}
def Q0 (K:Frag)(H:Hp)(x:V)(t:Ty):Prop:=j9 K H x (.type t.nm)∨∃a xs,x=.ref a/\zP K H a xs/\t=.tup
def Pg {A:Hx}{w:W}{t:Ty}(S:zu K φ A H)(q:RV K φ H w v)(e:wU w A=some t):Q0 K H v t:=by
 cases w with
 |non=>cases e;obtain rfl:=q;exact .inl .non|bl k=>cases e;obtain rfl:=q;exact .inl (.bl k)|clo _ _ _=>cases e|xc _=>cases e|fn _=>cases e|int k=>cases e;obtain rfl:=q;exact .inl (.int k)|str k=>cases e;obtain rfl:=q;exact .inl (.str k)|tup ws=>cases e;obtain⟨a,vs,rfl,h,_⟩:=q;exact .inr ⟨a,vs,rfl,h,rfl⟩|ref n=>
  obtain⟨a,rfl,c⟩:=q;unfold wU at e;dsimp only at e;cases E:A[n]? with
  |none=>rw[E]at e;cases e|some o=>
   rw[E]at e;obtain⟨d,b,r⟩:=S.ob n o E;rw[c]at b;cases b;cases o with
   |lst ws=>cases e;obtain⟨vs,z,_⟩:=r;exact .inl (.lst z)|dct ws=>cases e;obtain⟨vs,z,_⟩:=r;exact .inl (.dK z)|td _=>cases e|tr _=>cases e|tab _ _=>cases e|ins _ _=>cases e|ro ws=>cases e
def Q0.kit {x:V}{t:Ty}(I:Inv X pins σ H s)(r:RelV x u)(h:Q0 X.K H x t):
  (∀{Q:bc}{E:bc}{A:Around}{c:Ty},(∀T,Q (.bool (wO t c)) { s with toks:=T })->wpAny (model X.prog X.w) A (call (.builtin "isinstance") [u,.type c.nm]) Q E s):=by
 intro Q E A c q;rcases h with h|⟨a,xs,rfl,h,rfl⟩
 ·exact Gh I r h (G3 t c) q
 ·cases (show u=Value.ref a from r)
  obtain⟨i,_,⟨o,d,b,_⟩,_⟩:=I.tuple h;exact aX kitx_tuple I.kIn ⟨o,d,b⟩ (G3 .tup c) (λz=>nomatch z) q
def HV (K:Frag):List V->Hp->VK->Prop:=λxs H Q=>∃x t c,xs=[x,.ty (Ty.nm c)]/\Q0 K H x t/\Q (.bl (wO t c)) H
def OG:jI X (.builtin "isinstance") (HV X.K):=by
 intro pins s σ H xs us Q I r h;obtain⟨x,t,c,rfl,d,q⟩:=h;obtain⟨u,U,rfl,b,a⟩:=vals2 r;cases (show U=Value.type c.nm from a)
 exact d.kit I b λT=>⟨.bl (wO t c),H,I.tok T,rfl,q⟩
def jY (t:Ty)(m:Ev):Ev:=λρ A=>(m ρ A).bind λw A1=>match wU w A1 with
 |some t'=>.ok (.bl (wO t' t)) A1|none=>.bad
def qW:W->W->Hx->R W:=λx y A=>match zM x A,y with
 |some ws,.int i=>match yo ws i with
  |some w=>.ok w A|none=>.bad
 |_,_=>.bad
def L8:∀x y A,zR (qW x y A):=λx y A=>by
 unfold qW;split
 ·split
  ·exact qr
  ·exact zT
 ·exact zT
def Pl {ws:List W}{i:Int}{w:W}(r:zo K φ H ws ys)(e:yo ws i=some w):∃y,yo ys i=some y/\RV K φ H w y:=by
 unfold yo at e ⊢;rw[<- r.length];cases h:yZ ws.length i with
 |none=>rw[h]at e;cases e|some j=>
  rw[h]at e;obtain⟨y,b,a⟩:=r.get (i:=j) e;exact⟨y,b,a⟩
def Li:qO K (VE K) qW:=λφ A H x y u v Q S c q p=>by
 unfold qW at p;cases es:zM u A with
 |none=>rw[es]at p;exact p.elim|some ws=>
  rw[es]at p;cases v with
  |int i=>
   obtain rfl:=q;dsimp only at p;cases e:yo ws i with
   |none=>rw[e]at p;exact p.elim|some w=>
    rw[e]at p;obtain⟨a,ys,rfl,z,r⟩:=Z3 S c es;obtain⟨Y,b,h⟩:=Pl r e;rcases z with z|z
    ·exact .inl ⟨a,ys,i,Y,rfl,rfl,z,b,p φ H _ .refl S h⟩
    ·exact .inr (.inl ⟨a,ys,i,Y,rfl,rfl,z,b,p φ H _ .refl S h⟩)
  |non=>exact p.elim|bl _=>exact p.elim|str _=>exact p.elim|tup _=>exact p.elim|ref _=>exact p.elim|clo _ _ _=>exact p.elim|xc _=>exact p.elim|fn _=>exact p.elim
def wZ (K:Frag)(r:List V->Hp->VK->Prop)(g:List W->Hx->R W):Prop:=∀φ A H a ys ws Q,zu K φ A H->(z8 K H a ys∨zP K H a ys)->zo K φ H ws ys->(g ws A).post (PB K φ H Q) yH->r [.ref a] H Q
noncomputable def mQ (g:List W->Hx->R W)(q:qJ):Ev:=λρ A=>(q ρ A).bind λws A1=>g ws A1
def mQ.read {g:List W->Hx->R W}{q:qJ}(hn:∀ws A,zR (g ws A))(c:wZ X.K r g):∀σ H Q,tM X.K xr (mQ g q) σ H Q->Q3 r (Qy (tQ X.K xr q) QI) σ H Q:=by
 rintro σ H Q ⟨φ,A,ρ,S,re,h⟩
 refine⟨φ,A,ρ,S,re,zJ (zC.mp h) (λws A1 d b H1 a ys l1 s z r=>?_) λ_ _ z=>z⟩;exact c b A1 H1 a ys ws Q s z r (zJ (we (hn _ _) d) (λ_ _ z=>z.mono l1) λ_ _ z=>z)
def YR {id:String}{g:List W->Hx->R W}{q:qJ}(d:jI X (.builtin id) r)(hn:∀ws A,zR (g ws A))(a:wZ X.K r g)(hm:X.mg x=none)(v:bootBuiltins x=some (.builtin id))(f:SQ X xr e q)(c:Gl X x:=by rfl)
  (H:x ≠ "__name__":=by decide)(b:(x==("__debug__":Str))=false:=by decide)(he:starEach [e] X.env=(false,eval e X.env)::starEach [] X.env:=by rfl)(h:(backTo pos (starEach [] X.env)).any (·.1)=false:=by rfl):
  SE X xr (.Call (.Name x p) [e] [] pos) (mQ g q):=PE.imp (g9 d c hm v (qy f qT he) H b he h) (mQ.read hn a)
def IC {id:String}{g:List W->Hx->R W}{q:qJ}(d:jI X (.type id) r)(hn:∀ws A,zR (g ws A))(a:wZ X.K r g)(hm:X.mg x=none)(v:bootBuiltins x=some (.type id))(f:SQ X xr e q)(c:Gl X x:=by rfl)
  (H:x ≠ "__name__":=by decide)(b:(x==("__debug__":Str))=false:=by decide)(he:starEach [e] X.env=(false,eval e X.env)::starEach [] X.env:=by rfl)(h:(backTo pos (starEach [] X.env)).any (·.1)=false:=by rfl):
  SE X xr (.Call (.Name x p) [e] [] pos) (mQ g q):=PE.imp (JS d c hm v (qy f qT he) H b he h) (mQ.read hn a)
noncomputable def yz:List W->Hx->R W:=λws A=>.ok (.int ws.length) A
def OH:wZ K (λxs H Q=>∃p ys,xs=[.ref p]/\(z8 K H p ys∨zP K H p ys)/\Q (.int ys.length) H) yz:=λφ A H a ys ws Q S z r p=>
 ⟨a,ys,rfl,z,by rw[<- r.length];exact p φ H _ .refl S rfl⟩
noncomputable def yD:List W->Hx->R W:=λws A=>.ok (.tup ws) A
def Na:wZ K (λxs H Q=>∃p ys,xs=[.ref p]/\((z8 K H p ys/\∀l,H l=none->Q (.ref l) (upd H l (.tup ys)))∨(zP K H p ys/\Q (.ref p) H))) yD:=λφ A H a ys ws Q S z r p=>by
 refine⟨a,ys,rfl,?_⟩;rcases z with z|z
 ·refine .inl ⟨z,λl h=>?_⟩
  obtain⟨a1,a2,b⟩:=gu S h r;exact p _ _ _ a1 a2 b
 ·exact .inr ⟨z,p φ H _ .refl S ⟨a,ys,rfl,z,r⟩⟩
variable {b:Expr}
def GJ {a:Addr}(I:Inv X pins σ H s)(l:X.calm=true)(z:z8 X.K H a ys∨zP X.K H a ys)
  (h:∀(c:a7)(j:Addr)(fp wr:a8)(S:Nat->Heap->Prop)(s2:Shared),Vals ys c->ys.length<=sizeLine->Walks X.prog X.w X.A.in1 j fp wr c.length (λi v=>c[i]? =some v) S->S 0 s2.heap->(∀b∈fp,b<s2.heap.objs.size)->
   (∀(h':Heap)(T:Nat),(∀b o,b∉wr->s2.heap.get? b=some o->h'.get? b=some o)->Inv X pins σ H { s2 with heap:=h',toks:=T })->Q (.ref j) s2):
  wpAny (model X.prog X.w) X.A.in1 (pyIter (.ref a)) Q E s:=by
 have g:X.A.in1.handled=none:=I.ok.hd l;have keep:∀(o:Obj)(h':Heap)(T:Nat),(∀b u,b∉[s.heap.objs.size]->(s.heap.push o).get? b=some u->h'.get? b=some u)->Inv X pins σ H { s with heap:=h',toks:=T }:=λo h' T k=>I.kept λb u e=>k b u (by
  intro hm;have q:b=s.heap.objs.size:=by simpa using hm
  exact absurd (q ▸ aw e) (aB _)) (aa _ e)
 rcases z with z|z
 ·obtain⟨c,r,p,f⟩:=I.list z
  have t:a<s.heap.objs.size:=by obtain⟨o,n,e,_⟩:=p;exact aw e
  refine wpAny_pyIter_list p.isList ?_;have W:=Walks.list (prog:=X.prog) (w:=X.w) g s.heap.objs.size a (az t) c.toArray;rw[ax]at W;simp only[List.getElem?_toArray]at W;refine h c s.heap.objs.size _ _ _ _ r f W ⟨⟨_,ah _ rfl,rfl,rfl⟩,p.isList.at λo e=>aa _ e⟩ (λb d=>?_) λh' T k=>keep _ h' T k;show b<(s.heap.push _).objs.size;rw[aN];rcases bz.mp d with e|d
  ·rw[e];exact aV _
  ·have e:b=a:=by simpa using d
   rw[e];exact aY t
 ·obtain⟨c,r,p,f⟩:=I.tuple z
  have t:a<s.heap.objs.size:=p.lt;have P:s.heap.IsTuple a c.toArray:=p;refine wpAny_pyIter_tuple P ?_;have W:=Walks.tuple (prog:=X.prog) (w:=X.w) g s.heap.objs.size a (az t) c.toArray;rw[ax]at W;simp only[List.getElem?_toArray]at W;refine h c s.heap.objs.size _ _ _ _ r f W ⟨⟨_,ah _ rfl,rfl,rfl⟩,P.at λo e=>aa _ e⟩ (λb d=>?_) λh' T k=>keep _ h' T k;show b<(s.heap.push _).objs.size;rw[aN];rcases bz.mp d with e|d
  ·rw[e];exact aV _
  ·have e:b=a:=by simpa using d
   rw[e];exact aY t
noncomputable def ZD:V->Option Bool
 |.bl b=>some b|.int i=>some (i != 0)|.non=>some false|_=>none
noncomputable def QR:W->Option Bool
 |.bl b=>some b|.int i=>some (i != 0)|.non=>some false|_=>none
def Pm {w:W}{k:Bool}(q:RV K φ H w v)(e:QR w=some k):ZD v=some k:=by
 cases w<;>first
  |(cases e;done)
  |(obtain rfl:=q;exact e)
def Rm {A:Around}{k:Bool}{Q:Bool->Shared->Prop}(r:RelV v u)(e:ZD v=some k)(h:Q k s):wpAny (model X.prog X.w) A (truthy u) Q E s:=by
 cases v with
 |bl b=>cases e;cases r;exact wpAny_truthy_bool h|int i=>
  cases e;obtain⟨t,rfl⟩:=r;exact PySem.P.truthy_int h
 |non=>cases e;cases r;exactλ_ _ _=>h|_=>cases e
def kh:List W->Option (List Bool)
 |[]=>some []|w::ws=>match QR w,kh ws with
  |some k,some K=>some (k::K)|_,_=>none
theorem Ww:∀{ws:List W}{ys:List V}{s:List Bool},zo K φ H ws ys->kh ws=some s->∀(i:Nat)(y:V),ys[i]? =some y->∃k,s[i]? =some k/\ZD y=some k
 |[],_,_,r,e,i,y,h=>by cases r;simp at h|w::ws,_,s,⟨v,r,g,q,t⟩,e,i,y,h=>by
  subst g;unfold kh at e;cases E:QR w with
  |none=>rw[E]at e;cases e|some k=>
   cases a:kh ws with
   |none=>rw[E,a]at e;cases e|some b=>
    rw[E,a]at e;cases e;cases i with
    |zero=>simp at h;subst h;exact⟨k,by simp,Pm q E⟩|succ i=>simp at h;obtain⟨c,f,d⟩:=Ww t a i y h;exact⟨c,by simpa using f,d⟩
theorem WV:∀{ws:List W}{K:List Bool},kh ws=some K->K.length=ws.length
 |[],_,e=>by cases e;rfl|w::ws,K,e=>by
  unfold kh at e;cases a:QR w with
  |none=>rw[a]at e;cases e|some k=>
   cases E:kh ws with
   |none=>rw[a,E]at e;cases e|some b=>rw[a,E]at e;cases e;simp[WV E]
def range_all (k:List Bool):(List.range k.length).all (λi=>k.getD i false)=k.all id:=by
 rw[Bool.eq_iff_iff,all_eq_true,all_eq_true]
 constructor
 ·intro h x b
  obtain⟨i,a,rfl⟩:=List.getElem_of_mem b
  have:=h i (List.mem_range.mpr a)
  rw[aI,aM a]at this;exact this
 ·intro h i a
  have H:=List.mem_range.mp a;rw[aI,aM H];exact h _ (List.getElem_mem H)
def Vh (K:Frag)(f:List Bool->Bool):List V->Hp->VK->Prop:=λxs H Q=>∃a ys s,xs=[.ref a]/\(z8 K H a ys∨zP K H a ys)/\s.length=ys.length/\(∀(i:Nat)(y:V),ys[i]? =some y->∃k,s[i]? =some k/\ZD y=some k)/\Q (.bl (f s)) H
def Pb {K:List Bool}{A:Around}(r:Vals ys its)(l:K.length=ys.length)(t:∀(i:Nat)(y:V),ys[i]? =some y->∃k,K[i]? =some k/\ZD y=some k):TruthOf X.prog X.w A (λi v=>its[i]? =some v) λi=>K.getD i false:=by
 intro i v s Q E P H;have b:i<its.length:=(bx.mp P).1;have h:i<ys.length:=by rw[r.length];exact b
 obtain⟨u,a,e⟩:=r.get (i:=i) (x:=ys[i]) (by simp[h])
 rw[P]at a;cases a;obtain⟨k,d,c⟩:=t i ys[i] (by simp[h])
 dsimp only at H;rw[aI,d]at H;exact Rm e c H
def PZ (g:X.calm=true):jI X (.builtin "all") (Vh X.K λb=>b.all id):=by
 intro pins s σ H xs us Q I r h;obtain⟨a,ys,b,rfl,z,l,f,q⟩:=h;obtain⟨u,rfl,d⟩:=vals1 r;cases d;refine call_all_walk (GJ I g z λc j fp wr S s2 v n W st p back=>?_);refine⟨j,fp,wr,_,_,S,λi=>b.getD i false,rfl,W,st,Pb v l f,λh' t k=>?_⟩;have e:c.length=b.length:=by rw[l,v.length]
 rw[e,range_all];exact⟨.bl _,H,back h' t k,rfl,q⟩
def Zy (f:List Bool->Bool):List W->Hx->R W:=λws A=>match kh ws with
 |some k=>.ok (.bl (f k)) A|none=>.bad
def Lh {f:List Bool->Bool}:∀ws A,zR (Zy f ws A):=λws A=>by
 unfold Zy;split
 ·exact qr
 ·exact zT
def NG {f:List Bool->Bool}:wZ K (Vh K f) (Zy f):=λφ A H a ys ws Q S z r p=>by
 unfold Zy at p;cases e:kh ws with
 |none=>rw[e]at p;exact p.elim|some k=>
  rw[e]at p;exact⟨a,ys,k,rfl,z,by rw[WV e,r.length],Ww r e,p φ H _ .refl S rfl⟩
abbrev Zu:=Zy λk=>k.all id
def MV:z7 X (compareOp .Is) (λx y H Q=>∃i j,x=.bl i/\y=.bl j/\Q (.bl (i==j)) H):=by
 intro pins s σ H x y v u Q I a r h;obtain⟨i,j,rfl,rfl,q⟩:=h;cases a;cases r;exact is_bool ⟨.bl _,H,I,rfl,q⟩
noncomputable def YQ:W->Bool
 |.non=>true|_=>false
def S7 {w:W}(q:RV K φ H w v):decide (v=.non)=YQ w:=by
 cases w with
 |non=>obtain rfl:=q;rfl|bl b=>obtain rfl:=q;rfl|clo _ _ _=>obtain⟨a,_,_,_,_,_,_,rfl,_⟩:=q;rfl|xc _=>obtain⟨a,_,_,_,rfl,_⟩:=q;rfl|fn _=>obtain⟨a,rfl,_⟩:=q;rfl|int b=>obtain rfl:=q;rfl|str b=>obtain rfl:=q;rfl|tup ws=>obtain⟨a,vs,rfl,_⟩:=q;rfl|ref n=>obtain⟨a,rfl,_⟩:=q;rfl
def gM (neg:Bool):W->W->Hx->R W:=λx y A=>match x,y with
 |.bl i,.bl j=>.ok (.bl (if neg then !(i==j) else i==j)) A|w,.non=>.ok (.bl (if neg then !YQ w else YQ w)) A|_,_=>.bad
def Mr {n:Bool}:∀x y A,zR (gM n x y A):=λx y A=>by
 unfold gM;split
 ·exact qr
 ·exact qr
 ·exact zT
def Lq:qO K (λx y H Q=>(y=.non/\Q (.bl (decide (x=.non))) H)∨∃i j,x=.bl i/\y=.bl j/\Q (.bl (i==j)) H) (gM false):=λφ A H x y u v Q S b a p=>by
 cases v with
 |non=>
  have q:y=.non:=a;refine .inl ⟨q,?_⟩;rw[S7 b];cases u<;>exact p φ H _ .refl S rfl
 |bl j=>
  cases u with
  |bl i=>obtain rfl:=b;obtain rfl:=a;exact .inr ⟨i,j,rfl,rfl,p φ H _ .refl S rfl⟩|_=>exact p.elim
 |_=>cases u<;>exact p.elim
def Vi:j8 X .Is (gM false):=gw (N1.or MV) Mr Lq
end
noncomputable def Vn (outer sc:Scope):Bool:=sc.kind==.function&&decide ((sc.names.map (·.1)).Nodup)&&sc.names.all λy=>y.2 != .free || (outer.names.lookup y.1==some .cell || outer.names.lookup y.1==some .free)
def cps (h:Vn X.env.scope sc=true):yL X sc:=by
 unfold Vn at h;rw[aq,aq,ay,au,all_eq_true]at h;refine⟨h.1.1,h.1.2,λy H e=>?_⟩
 have:=h.2 y H
 rw[e]at this;simp only[bne_self_eq_false,Bool.false_or,or_eq_true,au]at this;exact this
section
variable {xr:XR}{K:Frag}{a b:Expr}{ma mb:Ev}
theorem zu.lst {φ:a8}{A:Hx}{H:Hp}{n:Nat}{ws:List W}{v:V}(S:zu K φ A H)(q:RV K φ H (.ref n) v)(e:A[n]? =some (.lst ws)):∃p vs,v=.ref p/\φ[n]? =some p/\H p=some (.lst vs)/\zo K φ H ws vs:=by
 obtain⟨p,rfl,a⟩:=q;obtain⟨P,h,vs,c,b⟩:=S.ob n _ e;rw[a]at h;cases h;exact⟨p,vs,rfl,a,c,b⟩
def R6 {prog:Program}{A:Around}{t b:Addr}{ws:a7}(a:IsTup s.heap t ([]:a7).toArray)(e:IsTup s.heap b ws.toArray)(h0:Q (.ref b) s):
  wpAny (model prog w) A (binaryOp .Add (.ref t) (.ref b)) Q E s:=by
 obtain⟨⟨cls,dd,data,l⟩,o,c,n,hd⟩:=id a;obtain⟨⟨C,d,data2,S⟩,h,H,N,hd2⟩:=id e;simp only at c hd H hd2;subst c hd H hd2;exact concat_meets ⟨_,o,rfl⟩ ⟨_,h,rfl⟩ noFill_tuple_add seq_tuple_add slot_tuple_add entry_tuple_add (args_tuple_add_2 _ _)
   (tuple_addW0 t b ([]:a7).toArray ws.toArray n N dd d l S (by simp)) ⟨o,h,h0⟩
noncomputable def Xk (K:Frag):R2:=λx y H Q=>∃a b ys,x=.ref a/\y=.ref b/\zP K H a []/\zP K H b ys/\Q (.ref b) H
def PU:z7 X (binaryOp .Add) (Xk X.K):=by
 intro pins s σ H x y v u Q I c r h;obtain⟨a,b,ys,rfl,rfl,g,f,q⟩:=h;cases c;cases r;obtain⟨e,d,P,_⟩:=I.tuple g;obtain⟨i,j,p,_⟩:=I.tuple f;cases d;exact R6 P p ⟨.ref b,H,I,rfl,q⟩
def qz:W->W->Hx->R W:=λx y A=>match x,y with
 |.int i,.int j=>.ok (.int (i+j)) A|.tup xs,.tup ys=>if xs.length+ys.length<=qm then .ok (.tup (xs++ys)) A else .bad|.ref n,.ref k=>match A[n]?,A[k]? with
  |some (.lst xs),some (.lst ys)=>if xs.length+ys.length<=qm then .ok (.ref A.length) (A++[.lst (xs++ys)]) else .bad|_,_=>.bad
 |_,_=>.bad
def NZ:∀x y A,zR (qz x y A):=λx y A=>by
 unfold qz
 split
 ·exact qr
 ·exact j4 qr zT
 ·split
  ·exact j4 qr zT
  ·exact zT
 ·exact zT
def gc (h:n<=qm):n<=sizeLine:=by
 have:sizeLine=16777216:=sizeLine_eq
 unfold qm at h;omega
def Nz:qO K (λx y H Q=>kY (λi j=>.int (i+j)) x y H Q∨XM K x y H Q∨Xk K x y H Q∨Vb x y H Q) qz:=λφ A H x y u v Q S f q p=>by
 cases u with
 |int i=>cases v with
  |int j=>obtain rfl:=f;obtain rfl:=q;exact .inl ⟨i,j,rfl,rfl,p φ H _ .refl S rfl⟩|_=>exact p.elim
 |tup xs=>cases v with
  |tup ys=>
   obtain⟨a1,b,rfl,t1,c⟩:=f;obtain⟨a2,a,rfl,t,r⟩:=q;unfold qz at p;dsimp only at p
   by_cases h:xs.length+ys.length<=qm
   ·rw[af h]at p
    by_cases z:b=[]
    ·subst z
     have o:xs=[]:=by
      have:=c.length
      simpa using this
     subst o;exact .inr (.inr (.inl ⟨a1,a2,a,rfl,rfl,t1,t,p φ H _ .refl S ⟨a2,a,rfl,t,r⟩⟩))
    ·refine .inr (.inl ⟨a1,a2,b,a,rfl,rfl,t1,t,z,by rw[<- c.length,<- r.length];exact gc h,λe=>?_,λne l g=>?_⟩)
     ·subst e
      have o:ys=[]:=by
       have:=r.length
       simpa using this
      subst o;rw[aT]at p;exact p φ H _ .refl S ⟨a1,b,rfl,t1,c⟩
     ·obtain⟨w,s,B⟩:=gu S g (c.append r)
      exact p _ _ _ w s B
   ·rw[ag h]at p;exact p.elim
  |_=>exact p.elim
 |ref n=>cases v with
  |ref k=>
   unfold qz at p;dsimp only at p;cases E:A[n]? with
   |none=>rw[E]at p;exact p.elim|some I=>cases I with
    |lst xs=>
     cases d:A[k]? with
     |none=>rw[E,d]at p;exact p.elim|some D=>cases D with
      |lst ys=>
       rw[E,d]at p;dsimp only at p;obtain⟨C,v1,rfl,f1,g1,c⟩:=S.lst f E;obtain⟨P,v2,rfl,f2,g2,r⟩:=S.lst q d
       by_cases h:xs.length+ys.length<=qm
       ·rw[af h]at p
        refine .inr (.inr (.inr ⟨C,P,v1,v2,rfl,rfl,g1,g2,by rw[<- c.length,<- r.length];exact gc h,λl g=>?_⟩))
        obtain⟨w,s,B⟩:=wt S g (c.append r);exact p _ _ _ w s B
       ·rw[ag h]at p;exact p.elim
      |_=>rw[E,d]at p;exact p.elim
    |_=>rw[E]at p;exact p.elim
  |_=>exact p.elim
 |_=>cases v<;>exact p.elim
def wR:W->W->Hx->R W:=λx y A=>match x,y with
 |.int i,.int j=>if QN i j then .ok (.int (i * j)) A else .bad|.ref n,.int k=>match A[n]? with
  |some (.lst xs)=>if kI k&&decide (xs.length * k.toNat<=qm) then .ok (.ref A.length) (A++[.lst (List.replicate k.toNat xs).flatten]) else .bad|_=>.bad
 |_,_=>.bad
def Ms:∀x y A,zR (wR x y A):=λx y A=>by
 unfold wR
 split
 ·exact j4 qr zT
 ·split
  ·exact j4 qr zT
  ·exact zT
 ·exact zT
theorem zo.rep {ws:List W}(r:zo K φ H ws vs):∀n:Nat,zo K φ H (List.replicate n ws).flatten (List.replicate n vs).flatten
 |0=>.nil|n+1=>by rw[aO,aO,a5,a5];exact r.append (zo.rep r n)
def NA:qO K (λx y H Q=>rI Zx (λi j=>.int (i * j)) x y H Q∨Vo x y H Q) wR:=λφ A H x y u v Q S a q p=>by
 cases v with
 |int j=>cases u with
  |int i=>
   obtain rfl:=a;obtain rfl:=q;unfold wR at p;dsimp only at p
   by_cases c:QN i j=true
   ·rw[af c]at p;exact .inl ⟨i,j,rfl,rfl,ON i j c,p φ H _ .refl S rfl⟩
   ·rw[ag c]at p;exact p.elim
  |ref n=>
   obtain rfl:=q;unfold wR at p;dsimp only at p;cases e:A[n]? with
   |none=>rw[e]at p;exact p.elim|some o=>cases o with
    |lst xs=>
     rw[e]at p;dsimp only at p;obtain⟨P,v1,rfl,f1,g1,r⟩:=S.lst a e
     by_cases h:(kI j&&decide (xs.length * j.toNat<=qm))=true
     ·rw[af h]at p
      rw[aq,ay]at h;obtain⟨g,B⟩:=JI h.1;refine .inr ⟨P,j,v1,rfl,rfl,g1,by omega,by omega,by rw[<- r.length];exact gc h.2,λl b=>?_⟩
      obtain⟨f,d,C⟩:=wt S b (r.rep j.toNat);exact p _ _ _ f d C
     ·rw[ag h]at p;exact p.elim
    |_=>rw[e]at p;exact p.elim
  |_=>exact p.elim
 |_=>cases u<;>exact p.elim
def yM:W->W->Hx->R W:=λx y A=>match x with
 |.ref n=>match A[n]? with
  |some (.lst ws)=>if ws.length<qm then .ok .non (A.set n (.lst (ws++[y]))) else .bad|_=>.bad
 |_=>.bad
noncomputable def Q6 (x:W)(A:Hx):Bool:=match x with
 |.ref n=>match A[n]? with
  |some (.lst _)=>true|_=>false
 |_=>false
def R8 {A:Hx}{w:W}(S:zu K φ A H)(q:RV K φ H w v)(e:Q6 w A=true):Q8 K "list" v H:=by
 unfold Q6 at e;cases w with
 |ref n=>
  dsimp only at e;cases E:A[n]? with
  |none=>rw[E]at e;cases e|some o=>cases o with
   |lst ws=>obtain⟨p,vs,rfl,_,h,_⟩:=S.lst q E;exact .inl ⟨rfl,_,z8.of h⟩|_=>rw[E]at e;cases e
 |_=>cases e
def kN (g:W->W->Hx->R W)(a b:Ev):Ev:=λρ A=>(a ρ A).bind λx A1=>if Q6 x A1 then(b ρ A1).bind λy c=>g x y c else .bad
def L5 {nm:Str}{id:String}{r:V->List V->Hp->VK->Prop}{g:W->W->Hx->R W}(slot:Slot "list" nm id)(j:typeOf (.builtin id)=pure (.type "method_descriptor"))(hm:ky X id r)(hn:∀x y A,zR (g x y A))
  (B:∀φ A H x y u v Q,zu X.K φ A H->RV X.K φ H u x->RV X.K φ H v y->(g u v A).post (PB X.K φ H Q) yH->r x [y] H Q)(t:SE X xr a ma)(he:SE X xr b mb)
  (s:starEach [b] X.env=(false,eval b X.env)::starEach [] X.env)(c:attributeBase a nm X.env (eval a X.env)=eval a X.env)
  (d:((backTo cpos (starEach [b] X.env)).all (λx=>!x.1)&&(backToKw cpos (keywordEach [] X.env)).all (λx=>x.1.isSome)
   && decide ([b].length+([]:bp).length+(if ([]:bp).isEmpty then 0 else 1)<30))=true)(e:(apos.endLine==cpos.line)=true):
  SE X xr (.Call (.Attribute a nm apos) [b] [] cpos) (kN g ma mb):=
 PE.imp (XZ PySem.F.plainAttrs_list slot j hm t (qy he qT s) c d e s (by rfl)) λσ H Q ⟨φ,A,ρ,S,re,h⟩=>by
  refine tM.go S re (zC.mp h) λw A1 n H1 v f l1 k q=>?_
  by_cases l:Q6 w A1=true
  ·rw[af l]at f
   refine⟨R8 k q l,?_⟩;refine tM.go k (re.mono l1) (zJ (zC.mp f) (λ_ _ z=>z) λ_ _ z=>z.mono l1) λo I i E v2 C l2 D p=>?_;exact B i I E v v2 w o Q D (q.mono l2) p (zJ (we (hn _ _ _) C) (λ_ _ z=>z.mono (l1.trans l2)) λ_ _ z=>z)
  ·rw[ag l]at f;exact f.elim
def RN:∀x y A,zR (yM x y A):=λx y A=>by
 unfold yM
 split
 ·split
  ·exact j4 qr zT
  ·exact zT
 ·exact zT
def kx:W->W->W->Hx->R Unit:=λo i v A=>match o,i with
 |.ref n,.int k=>match A[n]? with
  |some (.lst ws)=>match yZ ws.length k with
   |some j=>.ok () (A.set n (.lst (ws.set j v)))|none=>.bad
  |_=>.bad
 |_,_=>.bad
def Xy:∀o i v A,zR (kx o i v A):=λo i v A=>by
 unfold kx
 split
 ·split
  ·split
   ·exact qr
   ·exact zT
  ·exact zT
 ·exact zT
def Xd:XI K XJ kx:=λφ A H o i v a w wv Q S f d q p=>by
 unfold kx at p;cases a with
 |ref n=>cases w with
  |int k=>
   obtain rfl:=d;dsimp only at p;cases e:A[n]? with
   |none=>rw[e]at p;exact p.elim|some g=>cases g with
    |lst ws=>
     rw[e]at p;dsimp only at p;cases E:yZ ws.length k with
     |none=>rw[E]at p;exact p.elim|some j=>
      rw[E]at p;obtain⟨l,vs,rfl,f1,g1,r⟩:=S.lst f e;have ln:Le K φ H φ (upd H l (.lst (vs.set j v))):=Le.upd f1 (λxs z=>by rw[g1]at z;cases z) (λ_ _ z=>by rw[g1]at z;cases z)
      obtain⟨c,b⟩:=S.write (o:=.lst ws) (o':=.lst (ws.set j wv)) e rfl rfl f1 ⟨_,ql,(r.mono ln).set (q.mono ln) j⟩;exact⟨l,vs,k,j,rfl,rfl,g1,by rw[<- r.length];exact E,p _ _ c b⟩
    |_=>rw[e]at p;exact p.elim
  |_=>exact p.elim
 |_=>cases w<;>exact p.elim
variable {m:Ev}
def LL {id:String}{g:W->Hx->R W}(i:jI X (.builtin id) r)(hn:∀w A,zR (g w A))(f:Jj X.K (λv=>r [v]) g)(hm:X.mg x=none)(d:bootBuiltins x=some (.builtin id))(j:SE X xr e m)(b:Gl X x:=by rfl)
  (a:x ≠ "__name__":=by decide)(c:(x==("__debug__":Str))=false:=by decide)(he:starEach [e] X.env=(false,eval e X.env)::starEach [] X.env:=by rfl)(l:(backTo pos (starEach [] X.env)).any (·.1)=false:=by rfl):
  SE X xr (.Call (.Name x p) [e] [] pos) (qN g m):=PE.imp (g9 i b hm d (qy j qT he) a c he l) λσ H Q h=>qN.read (r:=λv=>r [v]) hn f σ H Q h
def NJ {id:String}{g:W->Hx->R W}(i:jI X (.type id) r)(hn:∀w A,zR (g w A))(f:Jj X.K (λv=>r [v]) g)(hm:X.mg x=none)(d:bootBuiltins x=some (.type id))(j:SE X xr e m)(b:Gl X x:=by rfl)
  (a:x ≠ "__name__":=by decide)(c:(x==("__debug__":Str))=false:=by decide)(he:starEach [e] X.env=(false,eval e X.env)::starEach [] X.env:=by rfl)(l:(backTo pos (starEach [] X.env)).any (·.1)=false:=by rfl):
  SE X xr (.Call (.Name x p) [e] [] pos) (qN g m):=PE.imp (JS i b hm d (qy j qT he) a c he l) λσ H Q h=>qN.read (r:=λv=>r [v]) hn f σ H Q h
noncomputable def kl:W->Bool
 |.tup _=>false|.ref _=>false|.clo _ _ _=>false|.xc _=>false|.fn _=>false|_=>true
noncomputable def Y2:W->W->Bool
 |.non,.non=>true|.bl a,.bl b=>a==b|.bl a,.int b=>(if a then 1 else 0)==b|.int a,.bl b=>a==(if b then 1 else 0)|.int a,.int b=>a==b|.str a,.str b=>a==b|_,_=>false
def Jb (x:W)(xs:List W):Bool:=xs.any λy=>Y2 y x
def Gf {w:W}(q:RV K φ H w v)(e:kl w=true):yU v=true:=by
 cases w<;>first
  |(cases e;done)
  |(obtain rfl:=q;rfl)
def Ri {w a:W}{b:V}(q:RV K φ H w v)(Q:RV K φ H a b)(e:kl w=true)(E:kl a=true):kC v b=Y2 w a:=by
 cases w<;>cases a<;>first
  |(cases e;done)
  |(cases E;done)
  |(obtain rfl:=q;obtain rfl:=Q;rfl)
theorem GH {x:W}(q:RV K φ H x v)(e:kl x=true):∀{xs:List W}{vs:List V},zo K φ H xs vs->xs.all kl=true->vs.all yU=true/\Jc v vs=Jb x xs
 |[],_,r,_=>by cases r;exact⟨rfl,rfl⟩|w::ws,_,⟨y,r,E,h,t⟩,a=>by
  subst E;rw[List.all_cons,aq]at a;obtain⟨I,i⟩:=GH q e t a.2;refine⟨by rw[List.all_cons,Gf h a.1,I];rfl,?_⟩
  unfold Jc Jb at i ⊢;rw[any_cons,any_cons,i,Ri h q a.1 e]
def ZG (neg:Bool):W->W->Hx->R W:=λx y A=>match zM y A with
 |some ws=>if kl x&&ws.all kl then .ok (.bl (if neg then !Jb x ws else Jb x ws)) A else .bad|none=>.bad
abbrev Km:=ZG false
def Mo {n:Bool}:∀x y A,zR (ZG n x y A):=λx y A=>by
 unfold ZG
 split
 ·exact j4 qr zT
 ·exact zT
def N5 {n:Bool}:qO K (VB K n) (ZG n):=λφ A H x y u v Q S q b p=>by
 unfold ZG at p;cases es:zM v A with
 |none=>rw[es]at p;exact p.elim|some ws=>
  rw[es]at p;dsimp only at p
  by_cases hf:(kl u&&ws.all kl)=true
  ·rw[af hf]at p
   rw[aq]at hf;obtain⟨a,ys,rfl,z,r⟩:=Z3 S b es;obtain⟨I,i⟩:=GH q hf.1 r hf.2;exact⟨a,ys,rfl,z,Gf q hf.1,I,by rw[i];exact p φ H _ .refl S rfl⟩
  ·rw[ag hf]at p;exact p.elim
structure QQ (X:Cx)(op:CmpOp)(g:W->W->Hx->R W):Prop where
 ex:∃r:R2,z7 X (compareOp op) r/\(∀x y A,zR (g x y A))/\qO X.K r g
def Vp:QQ X .In Km:=⟨_,RA,Mo,N5⟩
end
noncomputable def jL (f:W->Option PyData):List W->Option (List PyData)
 |[]=>some []|w::ws=>match f w,jL f ws with
  |some d,some ds=>some (d::ds)|_,_=>none
def zQ (A:Hx):Nat->W->Option PyData
 |_,.non=>some .none|_,.bl b=>some (.bool b)|_,.int i=>some (.int i)|_,.str x=>if PyData.strOk x then some (.str x) else none|_,.clo _ _ _=>none|_,.xc _=>none|_,.fn _=>none|0,.tup _=>none|0,.ref _=>none|n+1,.tup ws=>(jL (zQ A n) ws).map .tuple|n+1,.ref k=>match zM (.ref k) A with
  |some ws=>(jL (zQ A n) ws).map .list|none=>none
def Og {K:Frag}{A:Hx}{us:List W}(S:zu K φ A H)(q:RV K φ H (.ref n) v)(e:zM (.ref n) A=some us):∃a ys,v=.ref a/\z8 K H a ys/\zo K φ H us ys:=by
 obtain⟨a,rfl,d⟩:=q;unfold zM at e;dsimp only at e;cases E:A[n]? with
 |none=>rw[E]at e;cases e|some o=>
  rw[E]at e;obtain⟨f,c,r⟩:=S.ob n o E;rw[d]at c;cases c;cases o with
  |lst xs=>cases e;obtain⟨ys,b,h⟩:=r;exact⟨a,ys,rfl,z8.of b,h⟩|ro xs=>cases e;obtain⟨ys,b,h⟩:=r;exact⟨a,ys,rfl,b.sq,h⟩|dct xs=>cases e|td _=>cases e|tr _=>cases e|tab _ _=>cases e|ins _ _=>cases e
section
variable {a:Expr}
theorem JU {K:Frag}{f:W->Option PyData}(hf:∀w v u d,RV K φ H w v->RelV v u->f w=some d->∃as,Reads h u d as):
  ∀{ws:List W}{vs:List V}{us:a7}{ds:List PyData},zo K φ H ws vs->Vals vs us->jL f ws=some ds->∃as,ReadsAll h us ds as
 |[],_,_,_,r,a,e=>by cases r;cases a;cases e;exact⟨[],.nil⟩|w::ws,_,_,ds,⟨v,r,k,q,t⟩,a,e=>by
  subst k;cases a with
  |cons g c=>
   unfold jL at e;cases E:f w with
   |none=>rw[E]at e;cases e|some d=>
    cases b:jL f ws with
    |none=>rw[E,b]at e;cases e|some D=>
     rw[E,b]at e;cases e;obtain⟨as,j⟩:=hf w v _ d q g E;obtain⟨bs,i⟩:=JU hf t c b;exact⟨_,.cons j i⟩
def Z6 {A:Hx}(I:Inv X pins σ H s)(S:zu X.K φ A H):∀(n:Nat)(w:W)(v:V)(u:Value)(d:PyData),RV X.K φ H w v->RelV v u->zQ A n w=some d->∃as,Reads s.heap u d as:=by
 intro n
 induction n with
 |zero=>
  intro w v u d q r e;cases w with
  |non=>obtain rfl:=q;cases r;cases e;exact⟨_,.none⟩|bl k=>obtain rfl:=q;cases r;cases e;exact⟨_,.bool k⟩|int k=>obtain rfl:=q;obtain⟨t,rfl⟩:=r;cases e;exact⟨_,.int k t⟩|str k=>
   obtain rfl:=q;obtain⟨t,rfl⟩:=r;unfold zQ at e
   split at e
   ·cases e;exact⟨_,.str k t⟩
   ·cases e
  |tup _=>cases e|ref _=>cases e|clo _ _ _=>unfold zQ at e;cases e|xc _=>unfold zQ at e;cases e|fn _=>unfold zQ at e;cases e
 |succ n x=>
  intro w v u d q r e;cases w with
  |non=>obtain rfl:=q;cases r;cases e;exact⟨_,.none⟩|bl k=>obtain rfl:=q;cases r;cases e;exact⟨_,.bool k⟩|clo _ _ _=>unfold zQ at e;cases e|xc _=>unfold zQ at e;cases e|fn _=>unfold zQ at e;cases e|int k=>obtain rfl:=q;obtain⟨t,rfl⟩:=r;cases e;exact⟨_,.int k t⟩|str k=>
   obtain rfl:=q;obtain⟨t,rfl⟩:=r;unfold zQ at e
   split at e
   ·cases e;exact⟨_,.str k t⟩
   ·cases e
  |tup ws=>
   obtain⟨a,vs,rfl,h,c⟩:=q;cases r;unfold zQ at e;cases E:jL (zQ A n) ws with
   |none=>rw[E]at e;cases e|some ds=>
    rw[E]at e;cases e;obtain⟨i,b,⟨o,l,j,k,g⟩,_⟩:=I.tuple h;obtain⟨as,f⟩:=JU x c b E;exact⟨_,.tuple l j g (by simpa using f)⟩
  |ref k=>
   unfold zQ at e;cases E:zM (.ref k) A with
   |none=>rw[E]at e;cases e|some ws=>
    rw[E]at e;dsimp only at e;obtain⟨a,ys,rfl,h,c⟩:=Og S q E;cases r;cases p:jL (zQ A n) ws with
    |none=>rw[p]at e;cases e|some ds=>
     rw[p]at e;cases e;obtain⟨i,b,⟨o,y,l,j,_,g⟩,_⟩:=I.list h;obtain⟨as,f⟩:=JU x c b p;exact⟨_,.list l j g (by simpa using f)⟩
def RB {A:Hx}:∀(n:Nat)(w:W)(d:PyData),zQ A n w=some d->d.canLay0=true/\d.depth<=n:=by
 intro n;have lst:∀{n:Nat},(∀(w:W)(d:PyData),zQ A n w=some d->d.canLay0=true/\d.depth<=n)->∀(ws:List W)(ds:List PyData),jL (zQ A n) ws=some ds->PyData.canLayAll0 ds=true/\PyData.depthAll ds<=n:=by
  intro n i ws
  induction ws with
  |nil=>intro ds e;cases e;exact⟨by simp[PyData.canLayAll0],by simp[PyData.depthAll]⟩|cons w ws I=>
   intro ds e;unfold jL at e;cases E:zQ A n w with
   |none=>rw[E]at e;cases e|some d=>
    cases b:jL (zQ A n) ws with
    |none=>rw[E,b]at e;cases e|some D=>
     rw[E,b]at e;cases e;obtain⟨h,c⟩:=i w d E;obtain⟨f,g⟩:=I D b;refine⟨by simp[PyData.canLayAll0,h,f],?_⟩
     simp only[PyData.depthAll];omega
 induction n with
 |zero=>
  intro w d e;cases w with
  |tup _=>cases e|ref _=>cases e|clo _ _ _=>unfold zQ at e;cases e|xc _=>unfold zQ at e;cases e|fn _=>unfold zQ at e;cases e|str x=>
   unfold zQ at e
   split at e
   ·rename_i H;cases e;exact⟨by simp[PyData.canLay0,H],by simp[PyData.depth]⟩
   ·cases e
  |_=>cases e;exact⟨by simp[PyData.canLay0],by simp[PyData.depth]⟩
 |succ n i=>
  intro w d e;cases w with
  |clo _ _ _=>unfold zQ at e;cases e|xc _=>unfold zQ at e;cases e|fn _=>unfold zQ at e;cases e|tup ws=>
   unfold zQ at e;cases a:jL (zQ A n) ws with
   |none=>rw[a]at e;cases e|some ds=>
    rw[a]at e;cases e;obtain⟨h,c⟩:=lst i ws ds a;refine⟨by simp[PyData.canLay0,h],?_⟩
    simp only[PyData.depth];omega
  |ref k=>
   unfold zQ at e;cases a:zM (.ref k) A with
   |none=>rw[a]at e;cases e|some ws=>
    rw[a]at e;dsimp only at e;cases E:jL (zQ A n) ws with
    |none=>rw[E]at e;cases e|some ds=>
     rw[E]at e;cases e;obtain⟨h,c⟩:=lst i ws ds E;refine⟨by simp[PyData.canLay0,h],?_⟩
     simp only[PyData.depth];omega
  |str x=>
   unfold zQ at e
   split at e
   ·rename_i H;cases e;exact⟨by simp[PyData.canLay0,H],by simp[PyData.depth]⟩
   ·cases e
  |_=>cases e;exact⟨by simp[PyData.canLay0],by simp[PyData.depth]⟩
def kR (neg:Bool):W->W->Hx->R W:=λx y A=>match zQ A 8 x,zQ A 8 y with
 |some d,some d'=>.ok (.bl (if neg then !PyData.eqv d d' else PyData.eqv d d')) A|_,_=>.bad
abbrev ye:=kR false
abbrev y0:=kR true
def Xj {n:Bool}:∀x y A,zR (kR n x y A):=λx y A=>by
 unfold kR
 split
 ·exact qr
 ·exact zT
def Y4 (K:Frag)(neg:Bool):R2:=λx y H Q=>∃φ A u v d d',zu K φ A H/\RV K φ H u x/\RV K φ H v y/\zQ A 8 u=some d/\zQ A 8 v=some d'/\Q (.bl (if neg then !PyData.eqv d d' else PyData.eqv d d')) H
def Qn {A:Hx}{w:W}{d:PyData}(h:zQ A 8 w=some d):SeqAt.shaped d=true:=by
 obtain⟨H,a⟩:=RB 8 w d h;unfold SeqAt.shaped;rw[H,Bool.true_and,ay];omega
def N9 (g:X.A.units+64<cLine):z7 X (compareOp .Eq) (Y4 X.K false):=by
 intro pins s σ H x y v u Q I b r h;obtain⟨φ,A,a,w,d,d',S,f,c,E,e,q⟩:=h;obtain⟨as,j⟩:=Z6 I S 8 a x v d f b E;obtain⟨bs,i⟩:=Z6 I S 8 w y u d' c r e;exact eq_dataH j i (Qn E) (Qn e) g ⟨.bl _,H,I,rfl,q⟩
def Lc (g:X.A.units+64<cLine):z7 X (compareOp .NotEq) (Y4 X.K true):=by
 intro pins s σ H x y v u Q I b r h;obtain⟨φ,A,a,w,d,d',S,f,c,E,e,q⟩:=h;obtain⟨as,j⟩:=Z6 I S 8 a x v d f b E;obtain⟨bs,i⟩:=Z6 I S 8 w y u d' c r e;exact ne_dataH j i (Qn E) (Qn e) g ⟨.bl _,H,I,rfl,q⟩
def GS {K:Frag}{n:Bool}:qO K (Y4 K n) (kR n):=λφ A H x y u v Q S a q p=>by
 unfold kR at p;cases e:zQ A 8 u with
 |none=>rw[e]at p;exact p.elim|some d=>
  cases E:zQ A 8 v with
  |none=>rw[e,E]at p;exact p.elim|some d'=>
   rw[e,E]at p;exact⟨φ,A,u,v,d,d',S,a,q,e,E,p φ H _ .refl S rfl⟩
def yS (h:zW k X.A):j8 X .Eq ye:=gw (N9 h.units) Xj GS
def Zp (h:zW k X.A):j8 X .NotEq y0:=gw (Lc h.units) Xj GS
end
mutual
noncomputable def W.nr:W->Bool
 |.tup ws=>qI ws|.ref _=>false|.clo _ ws _=>qI ws|_=>true
noncomputable def qI:List W->Bool
 |[]=>true|w::ws=>w.nr&&qI ws
end
def iso (f:Fn):Fn:=λus A=>if qI us then(match f us [] with
 |.ok w A1=>(match w with
  |.ref n=>(match A1[n]? with
   |some (.lst ws)=>if qI ws then .ok (.ref A.length) (A++[.lst ws]) else .bad|some (.dct kvs)=>if qI (kvs.map (·.2)) then .ok (.ref A.length) (A++[.dct kvs]) else .bad|_=>.bad)
  |w=>if w.nr then .ok w A else .bad)
 |_=>.bad) else .bad
section
variable {K:Frag}{φ' φ1:a8}{H' H1:Hp}{A A1:Hx}
mutual
theorem RV.nrm (tp:∀a vs,zP K H a vs->zP K H' a vs)(fz:∀a o u,H a=some (.frz o u)->H' a=some (.frz o u)):∀{w:W}{v:V},w.nr=true->RV K φ H w v->RV K φ' H' w v
 |.non,_,_,h=>h|.bl _,_,_,h=>h|.int _,_,_,h=>h|.str _,_,_,h=>h|.tup ws,_,n,⟨a,vs,e,t,r⟩=>⟨a,vs,e,tp _ _ t,zo.nrm tp fz n r⟩|.ref _,_,n,_=>nomatch n
 |.clo _ ws P,_,n,⟨a,ob,u,c,g,uc,vs,e,d,b,i,r⟩=>⟨a,ob,u,c,g,uc,vs,e,fz _ _ _ d,fz _ _ _ b,i,zo.nrm tp fz n r⟩|.xc _,_,_,⟨a,f,u,C,e,d,b⟩=>⟨a,f,u,C,e,fz _ _ _ d,b⟩|.fn _,_,_,h=>h
theorem zo.nrm (tp:∀a vs,zP K H a vs->zP K H' a vs)(fz:∀a o u,H a=some (.frz o u)->H' a=some (.frz o u)):∀{ws:List W}{vs:List V},qI ws=true->zo K φ H ws vs->zo K φ' H' ws vs
 |[],_,_,h=>h|w::ws,_,n,⟨v,r,e,h,t⟩=>by
  have N:(w.nr&&qI ws)=true:=n;rw[aq]at N;exact⟨v,r,e,RV.nrm tp fz N.1 h,zo.nrm tp fz N.2 t⟩
end
def zu.none:zu K [] [] H:=⟨rfl,λi j a o o' _ _ h=>by simp at h,λn o h=>by simp at h⟩
def zu.frame (S:zu K φ A H)(k:∀a o,H a=some o->H1 a=some o)(l:Le K φ H φ H1):zu K φ A H1:=
 ⟨S.len,S.inj,λn o e=>let ⟨a,h1,q⟩:=S.ob n o e;⟨a,h1,q.keep l λu h=>k a u h⟩⟩
def Le.apart (l:Le K [] H φ1 H1):Le K φ H φ H1/\∀a o,H a=some o->H1 a=some o:=
 have k:∀a o,H a=some o->H1 a=some o:=λa o h=>l.fr a o h λn e=>by simp at e
 ⟨⟨λ_ _ h=>h,l.tp,λa o h _=>k a o h,λ_ _ h=>.inl h,l.st,l.fz⟩,k⟩
def zu.trackN {u:HO}{o:O}(S:zu K φ A H)(N:H D=some u)(n:∀(k:Nat)(q:O),φ[k]? =some D->A[k]? =some q->q.mut=false)(new:OR K (φ++[D]) H D o):zu K (φ++[D]) (A++[o]) H:=by
 have l:kD K φ H (φ++[D]) H:=⟨λn a h=>by
  have:=(bx.mp h).1
  rw[ae this];exact h,λ_ _ h=>h,λ_ _ _ h=>h⟩
 have old:∀(i:Nat) a,(φ++[D])[i]? =some a->i<A.length->φ[i]? =some a:=λi a e f=>by
  rw[ae (by rw[S.len];exact f)]at e;exact e
 have last:∀a,(φ++[D])[A.length]? =some a->a=D:=λa e=>by
  rw[ai (by rw[S.len];exact ak _),S.len]at e
  simpa using e.symm
 refine⟨by simp[S.len],λi j a I E B y g b J M=>?_,λk o' e=>?_⟩
 ·by_cases f:i<A.length
  ·rw[ae f]at g
   by_cases c:j<A.length
   ·rw[ae c]at b
    exact S.inj i j a I E (old i a B f) (old j a y c) g b J M
   ·exfalso
    have v:j=A.length:=by have:=(bx.mp b).1;simp at this;omega
    subst v;have z:=n i I (by rw[<- last a y];exact old i a B f) g
    rw[J]at z;cases z
  ·have w:i=A.length:=by have:=(bx.mp g).1;simp at this;omega
   by_cases c:j<A.length
   ·exfalso
    rw[ae c]at b;subst w;have z:=n j E (by rw[<- last a B];exact old j a y c) b
    rw[M]at z;cases z
   ·have:=(bx.mp b).1;simp at this;omega
 ·by_cases hn:k<A.length
  ·rw[ae hn]at e
   obtain⟨a,L,q⟩:=S.ob k o' e;refine⟨a,l.ex _ _ L,?_⟩;cases o' with
   |lst ws=>obtain⟨vs,z,r⟩:=q;exact⟨vs,z,r.monoW l⟩|dct ws=>obtain⟨vs,z,Z,r⟩:=q;exact⟨vs,z,Z,r.monoW l⟩|td _=>obtain⟨vs,z,Z,t,r⟩:=q;exact⟨vs,z,Z,λx p=>l.tp _ _ (t x p),r.monoW l⟩|tr _=>obtain⟨ob,u,vs,z,d,Z,t,r⟩:=q;exact⟨ob,u,vs,z,d,Z,λx p=>l.tp _ _ (t x p),r.monoW l⟩|tab _ _=>exact q|ins _ _=>obtain⟨C,d,vs,n,z,Z,r⟩:=q;exact⟨C,d,vs,n,z,Z,r.monoW l⟩|ro ws=>obtain⟨vs,z,r⟩:=q;exact⟨vs,z,r.monoW l⟩
  ·have s:k=A.length:=by have:=(bx.mp e).1;simp at this;omega
   subst s;rw[ai (ak _)]at e;simp at e;subst e;exact⟨D,by rw[ai (by rw[S.len];exact ak _),S.len];simp,new⟩
def zu.adopt {o:O}(S:zu K φ A H)(l:Le K [] H φ1 H1)(d:φ1[n]? =some a)(m:∃u,H1 a=some u)(new:OR K (φ++[a]) H1 a o):
  Le K φ H (φ++[a]) H1/\zu K (φ++[a]) (A++[o]) H1/\RV K (φ++[a]) H1 (.ref A.length) (.ref a):=by
 obtain⟨L,k⟩:=l.apart (φ:=φ);have h0:H a=Option.none:=by
  rcases l.nw n a d with e|e
  ·simp at e
  ·exact e
 obtain⟨u,b⟩:=m;have s:=S.frame k L;refine⟨L.gy h0,s.trackN b (λk q g f=>?_) new,a,rfl,by rw[<- S.len];simp⟩
 cases c:q.mut with
 |false=>rfl|true=>
  obtain⟨i,E,r⟩:=S.ob k q f;rw[g]at E;cases E;obtain⟨z,h,_⟩:=r.there c;rw[h0]at h;cases h
def OR.nrL {ws:List W}(h:OR K φ H a (.lst ws))(n:qI ws=true):OR K φ' H a (.lst ws):=let ⟨vs,e,r⟩:=h;⟨vs,e,r.nrm (λ_ _ t=>t) (λ_ _ _ t=>t) n⟩
def OR.nrD {kvs:List (Key×W)}(h:OR K φ H a (.dct kvs))(n:qI (kvs.map (·.2))=true):OR K φ' H a (.dct kvs):=let ⟨vs,e,E,r⟩:=h;⟨vs,e,E,r.nrm (λ_ _ t=>t) (λ_ _ _ t=>t) n⟩
theorem zL.iso {f:Fn}(F:zL P w K mg base k x n f):zL P w K mg base k x n (iso f):=by
 obtain⟨D,fd,z,F,a,b,c⟩:=F;refine⟨D,fd,z,F.imp λvs H Q E ⟨C,φ,A,ws,S,r,q⟩=>?_,a,b,c⟩;unfold Mi.iso at q
 by_cases hn:qI ws=true
 ·rw[af hn]at q
  refine⟨C,[],[],ws,zu.none,r.nrm (λ_ _ t=>t) (λ_ _ _ t=>t) hn,?_⟩;cases hf:f ws [] with
  |ok w A1=>
   rw[hf]at q;dsimp only at q;intro u H1 v l1 I g;cases w with
   |ref m=>
    dsimp only at q;cases hm:A1[m]? with
    |none=>rw[hm]at q;exact q.elim|some o=>
     rw[hm]at q;obtain⟨J,j,d⟩:=I.ob m o hm;obtain⟨a2,rfl,e⟩:=g;rw[j]at e;cases e;cases o with
     |lst us=>
      dsimp only at q
      by_cases h:qI us=true
      ·rw[af h]at q
       obtain⟨t,i,_⟩:=d.there rfl;obtain⟨s,p,B⟩:=S.adopt l1 j ⟨t,i⟩ (o:=.lst us) (d.nrL h);exact q _ _ _ s p B
      ·rw[ag h]at q;exact q.elim
     |dct us=>
      dsimp only at q
      by_cases h:qI (us.map (·.2))=true
      ·rw[af h]at q
       obtain⟨t,i,_⟩:=d.there rfl;obtain⟨s,p,B⟩:=S.adopt l1 j ⟨t,i⟩ (o:=.dct us) (d.nrD h);exact q _ _ _ s p B
      ·rw[ag h]at q;exact q.elim
     |ro us=>exact q.elim|td _=>exact q.elim|tr _=>exact q.elim|tab _ _=>exact q.elim|ins _ _=>exact q.elim
   |_=>
    all_goals
     dsimp only at q;obtain⟨l,kk⟩:=l1.apart (φ:=φ)
     first
      |exact q φ H1 v l (S.frame kk l) g
      |(
        split at q
        ·rename_i hw
         exact q φ H1 v l (S.frame kk l) (RV.nrm (λ_ _ t=>t) (λ_ _ _ t=>t) hw g)
        ·exact q.elim)
  |exc y A1=>rw[hf]at q;exact q.elim|bad=>rw[hf]at q;exact q.elim
 ·rw[ag hn]at q;exact q.elim
end
section
variable {K:Frag}{a b:Expr}{m:Ev}{st:Stmt}
noncomputable def intsOf:List W->Option (a6)
 |[]=>some []|w::ws=>match w with
  |.int i=>match intsOf ws with
   |some is=>some (i::is)|none=>none
  |_=>none
theorem Ge:∀{ws:List W}{ns:a6},intsOf ws=some ns->ws=ns.map W.int
 |[],_,e=>by cases e;rfl|w::ws,ns,e=>by
  unfold intsOf at e;cases w with
  |int i=>
   dsimp only at e;cases E:intsOf ws with
   |none=>rw[E]at e;cases e|some is=>rw[E]at e;cases e;rw[Ge E];rfl
  |_=>cases e
noncomputable def ko:List Int->Int->Int
 |[],m=>m|i::is,m=>ko is (if i > m then i else m)
def RS (ns:a6):∀(k:Nat)(a:k<ns.length),ko (ns.drop (k+1)) (ns.getD (argBest (λi j=>decide (ns.getD i 0 > ns.getD j 0)) k) 0)=ko ns.tail (ns.getD 0 0):=by
 intro k
 induction k with
 |zero=>intro _;rw[show argBest _ 0=0 from rfl,List.drop_one]|succ k I=>
  intro a;have H:k<ns.length:=by omega
  rw[<- I H];have e:ns.drop (k+1)=ns[k+1]::ns.drop (k+1+1):=List.drop_eq_getElem_cons a;rw[e];have E:ns.getD (k+1) 0=ns[k+1]:=by rw[aI,aM a];rfl
  show ko _ (ns.getD (if decide (ns.getD (k+1) 0 > ns.getD (argBest _ k) 0)=true then k+1 else argBest _ k) 0)=ko _ (if ns[k+1] > ns.getD (argBest _ k) 0 then ns[k+1] else ns.getD (argBest _ k) 0);rw[E]
  by_cases h:ns[k+1] > ns.getD (argBest (λi j=>decide (ns.getD i 0 > ns.getD j 0)) k) 0
  ·rw[af (by rw[ay];exact h),af h,E]
  ·rw[ag (by rw[ay];exact h),ag h]
noncomputable def XT (K:Frag)(C:List Int->Prop)(f:List Int->Int):List V->Hp->VK->Prop:=λxs H Q=>∃a ns,xs=[.ref a]/\(z8 K H a (ns.map V.int)∨zP K H a (ns.map V.int))/\C ns/\Q (.int (f ns)) H
def Yh {ns:a6}(r:Vals (ns.map V.int) its){v:Value}(h:its[i]? =some v):∃t,v=.int (ns.getD i 0) t:=by
 have c:i<its.length:=(bx.mp h).1;have H:i<ns.length:=by have:=r.length;rw[aL]at this;omega
 obtain⟨u,a,b⟩:=r.get (i:=i) (x:=V.int ns[i]) (by simp[H])
 rw[h]at a;cases a;obtain⟨t,rfl⟩:=b;exact⟨t,by rw[aI,aM H];rfl⟩
def Ru (o:X.calm=true):jI X (.builtin "max") (XT X.K (λns=>ns≠[]) λns=>ko ns.tail (ns.getD 0 0)):=by
 intro pins s σ H xs us Q I r h;obtain⟨a,ns,rfl,z,f,q⟩:=h;obtain⟨u,rfl,l⟩:=vals1 r;cases l;have N:0<ns.length:=List.length_pos_iff.mpr f;refine call_max_walk (GJ I o z λd D fp wr S s2 c M W st p back=>?_);have e:d.length=ns.length:=by have:=c.length;rw[aL]at this;omega
 refine⟨D,fp,wr,_,_,S,λi j=>decide (ns.getD i 0 > ns.getD j 0),rfl,W,st,p,by omega,?_,λv h' T n k=>?_⟩
 ·intro i j L J s' Q' E B y x
  obtain⟨t1,rfl⟩:=Yh c B;obtain⟨g,rfl⟩:=Yh c y;exact(PyProof.Rows.gt_int x:wpAny (model X.prog X.w) X.A.in1 (compareOp .Gt (.int (ns.getD i 0) t1) (.int (ns.getD j 0) g)) Q' E s')
 ·obtain⟨t,rfl⟩:=Yh c n
  rw[e];have b:=RS ns (ns.length-1) (by omega)
  rw[show ns.length-1+1=ns.length by omega,List.drop_length]at b
  have C:ns.getD (argBest (λi j=>decide (ns.getD i 0 > ns.getD j 0)) (ns.length-1)) 0=ko ns.tail (ns.getD 0 0):=b;rw[C];exact⟨.int _,H,back h' T k,⟨_,rfl⟩,q⟩
def kX:List W->Hx->R W:=λws A=>match intsOf ws with
 |some (i::is)=>.ok (.int (ko is i)) A|_=>.bad
def Lj:∀ws A,zR (kX ws A):=λws A=>by
 unfold kX;split
 ·exact qr
 ·exact zT
def RW {ws:List W}{ns:a6}{a:Addr}(z:z8 K H a ys∨zP K H a ys)(r:zo K φ H ws ys)(e:intsOf ws=some ns):z8 K H a (ns.map V.int)∨zP K H a (ns.map V.int):=by
 rw[Ge e]at r;rw[<- zo.ints.mp r];exact z
def Nt:wZ K (XT K (λns=>ns≠[]) λns=>ko ns.tail (ns.getD 0 0)) kX:=λφ A H a ys ws Q S z r p=>by
 unfold kX at p;cases e:intsOf ws with
 |none=>rw[e]at p;exact p.elim|some ns=>cases ns with
  |nil=>rw[e]at p;exact p.elim|cons i is=>rw[e]at p;exact⟨a,i::is,rfl,RW z r e,(by intro z;cases z),p φ H _ .refl S rfl⟩
def IY (y:W):List W->Nat->Nat
 |[],n=>n|w::ws,n=>IY y ws (if Y2 w y then n+1 else n)
noncomputable def Fc (lo d:Int)(n:Nat):It:=⟨λi _=>i<n,λi H x h=>h=H/\x=.int (lo+i * d),λi _=>n<=i⟩
def Fe (t:TA):TI:=λσ H R=>t σ H λvs H1=>∃i j:Int,vs=[.int i,.int j,.int (-1)]/\(-(2 ^ 62)<=i/\i<2 ^ 62/\-(2 ^ 62)<=j/\j<2 ^ 62)/\R (Fc i (-1) (i-j).toNat) H1
noncomputable def Ff (h:Int)(n:Nat):qM:=⟨λ_ i=>if i<n then some (some (.int (h-i))) else some none,n⟩
def LN (t:TA):TE:=λσ H Q=>t σ H λvs H1=>∃j:Int,vs=[.int j]/\∀p,H1 p=none->Q (.ref p) (upd H1 p (.rng 0 j))
def Ox {T:TA}(g:Gl X "range")(hm:X.mg "range"=none)(e:PA X [a] T)(d:starEach [a] X.env=[(false,eval a X.env)]):PE X (.Call (.Name "range" p) [a] [] pos) (LN T):=by
 intro pins s σ H Q I h;refine Call_ (wy I g hm boot_range (PyProof.Rows.callWith_type1 (zw (e pos pins s σ H _ I h) λus s1 ⟨vs,H1,i,r,c⟩=>?_) d rfl));obtain⟨j,rfl,q⟩:=c;obtain⟨u,rfl,⟨t,rfl⟩⟩:=r.one;refine call_range_1 ⟨.ref _,_,i.laid (o:=.rng 0 j) (λb o E=>aa _ E) (ak _) ?_,rfl,q _ (i.hok.fresh (ak _))⟩;exact⟨_,_,_,ah _ rfl⟩
noncomputable def wN (n:Nat):List V:=(List.range n).map λ(i:Nat)=>V.int i
def Sw (B:X.calm=true):jI X (.type "list") (λxs H Q=>∃(r:Addr) (j:Int),xs=[.ref r]/\H r=some (.rng 0 j)/\(-(2 ^ 62)<=j/\j<2 ^ 62)/\j.toNat<=sizeLine/\∀l,H l=none->Q (.ref l) (upd H l (.lst (wN j.toNat)))):=by
 intro pins s σ H xs us Q I r h;obtain⟨p,j,rfl,y,⟨E,D⟩,z,q⟩:=h;obtain⟨u,rfl,w⟩:=vals1 r;cases w;obtain⟨t1,g,t3,A⟩:=I.hok p _ y;have J:sizeLine=16777216:=sizeLine_eq;refine PySem.call_list_range (n:=j.toNat) (I.ok.hd B) (show IsRange s.heap p 0 j 1 t1 g t3 from A) (small_one (by omega) (by omega) E D) (by rw[rangeSize_one];split<;>omega) (by omega) λh' T acc C kk S ⟨hn,d⟩=>?_
 refine⟨.ref s.heap.objs.size,_,I.laid (t':=T) (o:=.lst (wN j.toNat)) kk (ak _) ?_,rfl,q _ (I.hok.fresh (ak _))⟩;refine⟨by unfold wN;simpa using z,acc.toList,C,?_,by simpa using S⟩
 have a:∀(l:a7)(k:Nat),(∀(i:Nat) v,l[i]? =some v->∃t,v=.int ((k+i:Nat):Int) t)->Vals ((List.range' k l.length).map λ(i:Nat)=>V.int i) l:=by
  intro l
  induction l with
  |nil=>intro k _;exact .nil|cons v l x=>
   intro k e;rw[aU,List.range'_succ,aP];refine .cons ?_ (x (k+1) λi f a=>?_)
   ·obtain⟨t,rfl⟩:=e 0 v rfl
    exact⟨t,rfl⟩
   ·obtain⟨t,rfl⟩:=e (i+1) f (by simpa using a)
    exact⟨t,by congr 1;omega⟩
 have b:acc.toList.length=j.toNat:=by simpa using hn
 have:=a acc.toList 0 λi v c=>by
  obtain⟨t,rfl⟩:=d i v (by simpa using c)
  exact⟨t,by congr 1;omega⟩
 rw[b]at this;unfold wN;rw[List.range_eq_range'];exact this
def G1 (m:Ev):Ev:=λρ A=>(m ρ A).bind λw A1=>match w with
 |.int j=>if kI j&&decide (j.toNat<=qm) then .ok (.ref A1.length) (A1++[.lst ((List.range j.toNat).map λ(i:Nat)=>W.int i)]) else .bad|_=>.bad
noncomputable def LW:V->V->Hp->VK->Prop:=λo i H Q=>∃p xs k v,o=.ref p/\i=.int k/\0<=k/\H p=some (.lst xs)/\xs[k.toNat]? =some v/\Q v H
def Om:X6 X LW:=by
 intro pins s σ H o i g j Q I ro d h;obtain⟨p,xs,k,v,rfl,rfl,h0,f,e,q⟩:=h;cases ro;obtain⟨t,rfl⟩:=d;obtain⟨a,r,pl,z⟩:=I.list (z8.of f);obtain⟨u,b,c⟩:=r.get e;have hn:=gv;have l:=r.length;have n:k.toNat<a.length:=(bx.mp b).1;exact wpAny_getItem_list pl.isList h0 (by omega) (by simpa using b) ⟨v,H,I,c,q⟩
def XF (mo mi me:Ev):Ex:=λρ A=>(mo ρ A).bind λo A1=>(mi ρ A1).bind λi a=>match o,i with
 |.ref n,.int k=>if 0<=k then(match (a[n]?:Option O) with
  |some (.lst ws)=>match ws[k.toNat]? with
   |some (.int x)=>(me ρ a).bind λy c=>match y with
    |.int y=>(kx (.ref n) (.int k) (.int (x+y)) c).bind λ_ b=>.ok (.nx ρ) b|_=>.bad
   |_=>.bad
  |_=>.bad) else .bad
 |_,_=>.bad
noncomputable def YB (i j k:Nat):Tg:=λw ρ=>match w with
 |.tup [x,.tup [y,z]]=>some (((ρ.set i (some x)).set j (some y)).set k (some z))|_=>none
end
def qh (k:Bool)(h:Heap)(it a:Addr)(i:Nat):Prop:=if k=true then h.IsListIter it a i else h.IsTupleIter it a i
def qD (k:Bool)(h:Heap)(a:Addr)(items:Array Value):Prop:=if k=true then h.IsList a items else h.IsTuple a items
def jv (k:Bool)(K:Frag)(H:Hp)(a:Addr)(xs:List V):Prop:=if k=true then z8 K H a xs else zP K H a xs
noncomputable def wI (k:Bool):String:=if k then "list_iterator" else "tuple_iterator"
def qh.ob {k:Bool}{it:Addr}(x:qh k h it a i):∃o,h.get? it=some o/\o.cls=.type (wI k)/\o.data=.fields #[.ref a,.int i 0]:=by
 cases k<;>exact x
def qh.mk {k:Bool}{it:Addr}(x:∃o,h.get? it=some o/\o.cls=.type (wI k)/\o.data=.fields #[.ref a,.int i 0]):qh k h it a i:=by
 cases k<;>exact x
def qh.to {k:Bool}{h':Heap}{it:Addr}(x:qh k h it a i)(e:∀o,h.get? it=some o->h'.get? it=some o):qh k h' it a i:=let ⟨o,h1,r⟩:=x.ob;.mk ⟨o,e o h1,r⟩
def qD.ob {k:Bool}{items:Array Value}(x:qD k h a items):∃o,h.get? a=some o/\o.cls=.type (if k then "list" else "tuple")/\∃n,o.data=.seq items n:=by
 cases k<;>exact x
def qD.to {k:Bool}{h':Heap}{items:Array Value}(x:qD k h a items)(e:∀o,h.get? a=some o->h'.get? a=some o):qD k h' a items:=by
 cases k with
 |false=>exact let ⟨o,h1,r⟩:=x.ob;⟨o,e o h1,r⟩|true=>exact let ⟨o,h1,r⟩:=x.ob;⟨o,e o h1,r⟩
section
variable {prog:Program}{A:Around}{k:Bool}{it:Addr}{items:Array Value}
def Xc (h:qD k s.heap a items)(H:Q (.ref s.heap.objs.size) { s with heap:=s.heap.push { cls:=.type (wI k),data:=.fields #[.ref a,.int 0 0] } }):wpAny (model prog w) A (pyIter (.ref a)) Q E s:=by
 cases k with
 |true=>exact wpAny_pyIter_list h H|false=>exact wpAny_pyIter_tuple h H
def Qi {x:Value}(hit:qh k s.heap it a i)(l:qD k s.heap a items)(f:items[i]? =some x)
  (g:∀h',qh k h' it a (i+1)->Heap.SameBut it s.heap h'->Q x { s with heap:=h' }):wpAny (model prog w) A (Builtin.SmallTypes.nextOf (.ref it)) Q E s:=by
 cases k with
 |true=>exact wpAny_nextOf_list_item hit l f g|false=>
  have h:s.heap.IsTupleIter it a i:=hit;obtain⟨o,b,e,H⟩:=id h;obtain⟨j,c,_,na,d⟩:s.heap.IsTuple a items:=l;unfold Builtin.SmallTypes.nextOf;refine bt (wpAny_callSpecial?_slot (name:=Str.ofString "__next__") h.typeIs F.slot_tuple_iterator_next (wpAny_call_entry F.slot_tuple_iterator_next h.typeIs F.entry_tuple_iterator_next ?_ (F.args_tuple_iterator_next_1 _)));show wpAny _ _ (field (.ref it) 0 >>= _) _ _ s;refine bt (wpAny_field b H (x:=.ref a) rfl ?_);show wpAny _ _ (if (Value.ref a==Value.none)=true then _ else _) _ _ s;rw[ag (show ¬((Value.ref a==Value.none)=true) from ao)]
  show wpAny _ _ (field (.ref it) 1 >>= _) _ _ s;refine bt (wpAny_field b H (x:=.int i 0) rfl ?_);show wpAny _ _ (seqItems? (.ref a) >>= _) _ _ s;refine bt (wpAny_seqItems c d ?_);simp only[Int.toNat_natCast,f];refine bt (wpAny_setField b H (by simp) (bw ⟨x,rfl,bw (g _ (.mk ?_) (Heap.SameBut.update ..))⟩))
  exact⟨_,Heap.get?_update_self _ b (Obj.isFreed_of_fields (Obj.data_mapFields H _)),(Obj.cls_mapFields ..).trans e,by rw[Obj.data_mapFields H];simp[rawInt]⟩
def YA (d:A.handled=none)(hit:qh k s.heap it a i)(l:qD k s.heap a items)(g:items[i]? =none)
  (j:∀h' e,Heap.ExtBut it s.heap h'->(∃o,h'.get? e=some o/\o.cls=.type "StopIteration")->E (.ref e) { s with heap:=h' }):wpAny (model prog w) A (Builtin.SmallTypes.nextOf (.ref it)) Q E s:=by
 cases k with
 |true=>exact wpAny_nextOf_list_end d hit l g j|false=>
  have h:s.heap.IsTupleIter it a i:=hit;obtain⟨p,H,n,b⟩:=id h;obtain⟨q,c,_,na,f⟩:s.heap.IsTuple a items:=l;unfold Builtin.SmallTypes.nextOf;refine bt (wpAny_callSpecial?_slot (name:=Str.ofString "__next__") h.typeIs F.slot_tuple_iterator_next (wpAny_call_entry F.slot_tuple_iterator_next h.typeIs F.entry_tuple_iterator_next ?_ (F.args_tuple_iterator_next_1 _)));show wpAny _ _ (field (.ref it) 0 >>= _) _ _ s;refine bt (wpAny_field H b (x:=.ref a) rfl ?_);show wpAny _ _ (if (Value.ref a==Value.none)=true then _ else _) _ _ s;rw[ag (show ¬((Value.ref a==Value.none)=true) from ao)]
  show wpAny _ _ (field (.ref it) 1 >>= _) _ _ s;refine bt (wpAny_field H b (x:=.int i 0) rfl ?_);show wpAny _ _ (seqItems? (.ref a) >>= _) _ _ s;refine bt (wpAny_seqItems c f ?_);simp only[Int.toNat_natCast,g];refine bt (wpAny_rule (bt (wpAny_setField H b (by simp) ?_)))
  show wpAny _ _ (newExc (.type "StopIteration") [] >>= _) _ _ _;refine bt ?_;simp only[newExc,newTuple];refine bt (wpAny_newObj_type ?_ (by size_fits))
  refine bt (m:=firstArgMember _ _) (wpAny_of_eq (a:=Value.none) (by first|rfl|(simp only[firstArgMember];rfl)) ?_);refine wpAny_newObj_type ?_ (by size_fits)
  simp only[raiseNew];refine bt (wpAny_handled ?_)
  first|rw[show A.in1.handled=none from d]|rw[d]
  refine bt (bw (wpAny_throw ?_));exact j _ _ (((Heap.SameBut.update ..).extBut.push _).push _) ⟨_,ah _ rfl,rfl⟩
def Gv (j:A.handled=none)(c:a≠it):Draws prog w A it [it,a] items.size (λi v=>items[i]? =some v) (λi h=>qh k h it a i/\qD k h a items) where
 live:=λ_ _ st=>let ⟨o,g,_⟩:=st.1.ob;⟨o,g⟩
 frame:=λ_ _ _ st d=>⟨st.1.to λo e=>d it (by simp) o e,st.2.to λo e=>d a (by simp) o e⟩
 item:=λi s Q E f st l=>Qi st.1 st.2 (x:=items[i]) (by simp[f]) λh' b H=>l _ h' s.toks (by simp[f]) ⟨b,st.2.to λo e=>H.extBut a o c e⟩ H
 done:=λs Q E st n=>YA j st.1 st.2 (by simp) n
end
section
variable {h':Heap}
def _root_.L2.Inv.spun {T:Addr}(I:Inv X pins σ H s)(k:∀b u,b∉fp->s.heap.get? b=some u->h'.get? b=some u)(hf:∀b∈fp,jN X pins H b)(hT:s.heap.objs.size<=T)
  (new:qd X.prog X.w (upd H T o) h' T o):Inv X pins σ (upd H T o) { s with heap:=h',toks:=t' }:=by
 have hn:H T=none:=I.hok.fresh hT;have lt:∀b u,s.heap.get? b=some u->b≠T:=λb u e=>az (ar (aw e) hT);have N:∀b u,H b=some u->b∉fp:=λb u e z=>by rw[(hf b z).1]at e;cases e
 refine I.step (g':=s.gens) (d':=s.drawn) (ch:=fp) (λb a=>let ⟨_,f1,_,g,f4,f⟩:=hf b a;⟨g,f1,f4,f⟩) (λb o _ _ h e _=>k b o h e) (λb o _ _ h e _=>⟨o.slots,k b o h e⟩)
  (λb o _ e n=>by rw[zF (lt b o e)];exact n) (λb o h e=>⟨o,k b o h e⟩) (λb xs e=>by rw[zF (jl e hn)];exact e) (λb u xs e=>by rw[zF (jl e hn)];exact e)
  (λb P e=>⟨#[],by rw[zF (jl e hn),e];simp⟩) (λm hm=>?_) (λb u e=>?_) I.bare
 ·obtain⟨o,E,p,d,r⟩:=hm
  exact⟨o,E,p,k _ o (λz=>(hf _ z).2.1 rfl) d,r⟩
 ·by_cases a:b=T
  ·subst a;rw[ql]at e;cases e;exact new
  ·rw[zF a]at e
   refine(I.hok b u e).stay (λc v h q=>k c v ?_ q) (λc q=>by rw[zF (jl q hn)];exact q) λc xs q=>by rw[zF (jl q hn)];exact q
   rcases h with z|z
   ·rw[z];exact N b u e
   ·exact N c _ z
def _root_.L2.Inv.spun0 (I:Inv X pins σ H s)(k:∀b u,b∉fp->s.heap.get? b=some u->h'.get? b=some u)(hf:∀b∈fp,jN X pins H b):Inv X pins σ H { s with heap:=h',toks:=t' }:=by
 have N:∀b u,H b=some u->b∉fp:=λb u e z=>by rw[(hf b z).1]at e;cases e
 refine I.step (g':=s.gens) (d':=s.drawn) (ch:=fp) (λb d=>let ⟨_,f1,_,g,f4,f⟩:=hf b d;⟨g,f1,f4,f⟩) (λb o _ _ h e _=>k b o h e) (λb o _ _ h e _=>⟨o.slots,k b o h e⟩)
  (λb o _ e n=>n) (λb o h e=>⟨o,k b o h e⟩) (λb xs e=>e) (λb u xs e=>e) (λb P e=>⟨#[],by rw[e];simp⟩) (λm hm=>?_) (λb u e=>?_) I.bare
 ·obtain⟨o,E,p,a,r⟩:=hm
  exact⟨o,E,p,k _ o (λz=>(hf _ z).2.1 rfl) a,r⟩
 ·refine(I.hok b u e).stay (λc v h q=>k c v ?_ q) (λc q=>q) λc xs q=>q
  rcases h with z|z
  ·rw[z];exact N b u e
  ·exact N c _ z
def _root_.L2.Inv.sq {k:Bool}(I:Inv X pins σ H s)(h:jv k X.K H a xs):∃i:a7,Vals xs i/\qD k s.heap a i.toArray/\xs.length<=sizeLine:=by
 cases k with
 |true=>obtain⟨i,r,p,z⟩:=I.list h;exact⟨i,r,p.isList,z⟩|false=>obtain⟨i,r,p,z⟩:=I.tuple h;exact⟨i,r,(show s.heap.IsTuple a i.toArray from p),z⟩
def _root_.L2.Inv.sq_inj {k:Bool}(I:Inv X pins σ H s)(h:jv k X.K H a xs)(h':jv k X.K H a ys):xs=ys:=by
 cases k with
 |true=>exact I.list_inj h h'|false=>exact I.tuple_inj h h'
end
def Kn (k:Bool)(K:Frag)(a:Addr):It:=
 ⟨λi H=>∃xs x,jv k K H a xs/\xs[i]? =some x,λi H x h=>∃p y,(∀xs,jv k K H a xs->xs[i]? =some y)/\H p=none/\x=.ref p/\h=upd H p (.tup [.int i,y]),λi H=>∃xs,jv k K H a xs/\xs.length=i⟩
def RQ {K:Frag}(k:Bool)(a n it:Addr):Turn P w K (.Tuple elts kk tpos) (Kn k K a) [n,it] n (λi h=>(∃old,IsEnum h n it i old)/\qh k h it a i/\n≠it) where
 mem:=by simp
 obj:=λi h st b f=>by
  obtain⟨⟨old,he⟩,g,_⟩:=st;rcases bz.mp f with rfl|f
  ·exact⟨_,he,λv z=>nomatch z⟩
  ·rw[List.mem_singleton.mp f]
   obtain⟨o,S,_,hd⟩:=g.ob;exact⟨o,S,λv z=>by rw[hd]at z;cases z⟩
 keep:=λi h h' ⟨⟨old,he⟩,g,ne⟩ kp=>⟨⟨old,kp n (by simp) _ he⟩,g.to λo r=>kp it (by simp) o r,ne⟩
 item:=by
  intro X hP hw hK hc i pins s σ H E I hf st Y;subst hP hw hK;obtain⟨⟨old,he⟩,g,ne⟩:=st;obtain⟨xs,x,D,C⟩:=Y;obtain⟨d,J,t,hz⟩:=I.sq D;obtain⟨u,hu,ru⟩:=J.get C;have U:i<d.toArray.size:=by simpa using (bx.mp hu).1
  obtain⟨oa,j,hca,na,e⟩:=t.ob;have A:a≠it:=λz=>by
   obtain⟨oi,c,hci,p⟩:=g.ob;rw[<- z,j]at c;cases c;rw[p]at e;cases e
  have ane:n≠a:=λz=>by
   have B:s.heap.get? a=_:=z ▸ he;rw[j]at B;cases B;cases e
  refine wpAny_pyNext_enum_itemD (Gv (k:=k) (items:=d.toArray) (I.ok.hd hc) A) he ⟨g,t⟩ U ne (by simp[ne,ane]) λy h1 T M S Q hT hsz hk=>?_
  have ey:y=u:=by
   have:d[i]? =some y:=by simpa using M
   rw[hu]at this;exact(aj this).symm
  subst ey;refine⟨_,rfl,wpAny_letOwnedTupleGo_enum S λh2 Z l=>?_⟩;have L:n<s.heap.objs.size:=aw he;have hT2:h2.get? s.heap.objs.size=some { cls:=.type "tuple",data:=.seq #[.int i T,y] }:=l.extBut _ _ (ne_of_gt L) hT;refine⟨.ref s.heap.objs.size,upd H s.heap.objs.size (.tup [.int i,x]),?_,rfl,⟨s.heap.objs.size,x,λys M=>by rw[I.sq_inj M D];exact C,I.hok.fresh (ak _),rfl,rfl⟩,⟨⟨_,by simpa using Z⟩,?_,ne⟩,λb f=>?_⟩
  ·refine I.spun (fp:=[n,it]) (t':=T+1) (λb o f r=>?_) hf (ak _) ?_
   ·exact l.extBut _ _ (λz=>f (by simp[z])) (hk b o (λz=>f (by simp[z])) (λz=>f (by simp[z])) r)
   ·exact⟨by show 2<=sizeLine;decide,[.int i T,y],.cons ⟨T,rfl⟩ (.cons ru .nil),_,hT2,⟨rfl,rfl⟩,0,rfl⟩
  ·exact Q.1.to λo r=>l.extBut _ _ (λz=>ne z.symm) r
  ·have bn:b≠s.heap.objs.size:=λz=>by
    rcases bz.mp f with q|q
    ·exact absurd L (by rw[<- q,z];exact aB _)
    ·obtain⟨oi,c,_⟩:=g.ob
     exact absurd (aw c) (by rw[<- List.mem_singleton.mp q,z];exact aB _)
   show upd H s.heap.objs.size _ b=none;rw[zF bn];exact(hf b f).1
 done:=by
  intro X hP hw hK hc i pins s σ H E I hf st Y;subst hP hw hK;obtain⟨⟨old,he⟩,g,ne⟩:=st;obtain⟨xs,D,C⟩:=Y;obtain⟨d,J,t,hz⟩:=I.sq D;have en':d.toArray.size=i:=by rw[ax,<- J.length];exact C
  obtain⟨oa,j,hca,na,e⟩:=t.ob;have A:a≠it:=λz=>by
   obtain⟨oi,c,hci,p⟩:=g.ob;rw[<- z,j]at c;cases c;rw[p]at e;cases e
  refine wpAny_pyNext_enum_endD (Gv (k:=k) (items:=d.toArray) (I.ok.hd hc) A) he ⟨by rw[en'];exact g,t⟩ λh1 N=>⟨rfl,?_⟩
  exact I.spun0 (fp:=[n,it]) (t':=s.toks) (λb o f r=>N b o (λz=>f (by simp[z])) r) hf
 self:=λ_ _ _ _ _ ⟨⟨_,he⟩,_⟩ h=>wpAny_pyIter_enum he h
open AutoSeq1 (wpAny_loadPart')
abbrev QM (h:Heap)(k:Bool)(a:Addr):Heap:=h.push { cls:=.type (wI k),data:=.fields #[.ref a,.int 0 0] }
abbrev Vl (h:Heap)(k:Bool)(a:Addr):Heap:=(QM h k a).push { cls:=.type "enumerate",data:=.fields #[.none,.bool false,.ref h.objs.size,rawInt 0,.none,.none] }
def T5 (a:Addr)(items:Array Value)(n:Nat)(dd:bq)(S:Array (Option Value)):
  Meets (Builtin.«enumerate.__new__» ⟨[.type "enumerate",.ref a],[]⟩) (λ_ R s=>s.heap.get? a=some { cls:=.type "tuple",dict:=dd,data:=.seq items n,slots:=S }/\R (.ok (.ret (.ref (QM s.heap false a).objs.size))) { s with heap:=Vl s.heap false a }):=
 .of_wp λprog w A R s h=>by
  obtain⟨p,g,d,t,os⟩:=s;obtain⟨H,h⟩:=h;have b:=sub_enumerate;have hT:Heap.IsTuple (Shared.heap ⟨p,g,d,t,os⟩) a items:=⟨_,H,rfl,n,rfl⟩
  wp_walk using wpAny_loadPart' H
  refine wpAny_stack_any λst=>bw ?_;split
  ·rename_i c _ _ _ _ _
   cases (c==Value.type "enumerate")<;>(wp_walk using wpAny_loadPart' H,wpAny_pyIter_tuple hT;exact⟨_,rfl,h⟩)
  ·wp_walk using wpAny_loadPart' H,wpAny_pyIter_tuple hT
   exact⟨_,rfl,h⟩
section
variable {prog:Program}{A:Around}
def Ro {k:Bool}{items:Array Value}(l:qD k s.heap a items)
  (h:∀h',IsEnum h' (s.heap.objs.size+1) s.heap.objs.size 0 .none->qh k h' s.heap.objs.size a 0->(∀b o,s.heap.get? b=some o->h'.get? b=some o)->Q (.ref (s.heap.objs.size+1)) { s with heap:=h' }):
  wpAny (model prog w) A (call (.type "enumerate") [.ref a]) Q E s:=by
 cases k with
 |true=>exact call_enumerate_list l λh' g f _ e=>h h' g f e|false=>
  obtain⟨⟨c,dd,D,S⟩,d,H,n,hd⟩:=(show s.heap.IsTuple a items from l)
  replace H:c=.type "tuple":=H
  replace hd:D=.seq items n:=hd
  subst H hd;refine callType_new F.called_enumerate (by decide) (F.typeCall_enumerate_1 _) (F.newCall_enumerate_1 _) (λobj=>F.args_object_init_2 obj _) F.entry_enumerate_new (T5 a items n dd S) ⟨d,?_⟩
  have z:(QM s.heap false a).objs.size=s.heap.objs.size+1:=aN ..;have he:IsEnum (Vl s.heap false a) (QM s.heap false a).objs.size s.heap.objs.size 0 .none:=ah _ rfl;show _/\_;rw[z]at he ⊢;exact⟨⟨_,he,rfl⟩,h _ he (.mk ⟨_,aa _ (ah _ rfl),rfl,rfl⟩) λb o x=>aa _ (aa _ x)⟩
end
section
variable {a b:Expr}{m:Ev}
def IQ (K:Frag)(t:TA):TI:=λσ H R=>t σ H λvs H1=>∃p k xs,vs=[.ref p]/\jv k K H1 p xs/\R (Kn k K p) H1
def boot_enumerate:bootBuiltins "enumerate"=some (.type "enumerate"):=by rfl
def boot_zip:bootBuiltins "zip"=some (.type "zip"):=by rfl
def O4 {t:TA}(l:Gl X "enumerate")(hm:X.mg "enumerate"=none)(o:PA X [a] t)(g:starEach [a] X.env=[(false,eval a X.env)]):
  PI X (.Tuple elts kk tpos) (.Call (.Name "enumerate" p) [a] [] pos) (IQ X.K t):=by
 intro pins s σ H R I h;refine Call_ (wy I l hm boot_enumerate (PyProof.Rows.callWith_type1 (zw (o pos pins s σ H _ I h) λus s1 ⟨vs,H1,i,d,Q⟩=>?_) g rfl));obtain⟨p,k,xs,rfl,j,q⟩:=Q;obtain⟨u,rfl,r⟩:=d.one;cases r;obtain⟨f,w,sq,x⟩:=i.sq j;refine Ro sq λh' e v E=>wpAny_pyIter_enum e ?_;refine⟨s1.heap.objs.size+1,[s1.heap.objs.size+1,s1.heap.objs.size],_,_,H1,rfl,i.kept (t':=s1.toks) E,RQ k p _ _,⟨⟨_,by simpa using e⟩,v,Nat.succ_ne_self _⟩,λb n=>?_,q⟩
 have c:s1.heap.objs.size<=b:=by
  rcases bz.mp n with z|z
  ·rw[z];exact Nat.le_succ _
  ·rw[List.mem_singleton.mp z];exact ak _
 exact i.fpOk c (i.hok.fresh c)
noncomputable def atEnd (ws:List W)(i:Nat)(f:W->W):Option (Option W):=match ws[i]? with
 |some x=>some (some (f x))|none=>if ws.length=i then some none else none
def Y3 (w:W)(n:Nat):qM:=⟨λA i=>match zM w A with
 |some ws=>atEnd ws i λx=>.tup [.int i,x]|none=>none,n⟩
noncomputable def kO (w:W):Bool:=match w with
 |.tup _=>false|_=>true
def Qb {K:Frag}{A:Hx}{w:W}{ws:List W}(S:zu K φ A H)(q:RV K φ H w v)(e:zM w A=some ws):∃p ys,v=.ref p/\jv (kO w) K H p ys/\zo K φ H ws ys:=by
 cases w with
 |tup us=>cases e;obtain⟨a,vs,E,t,r⟩:=q;exact⟨a,vs,E,t,r⟩|ref n=>
  obtain⟨a,E,f⟩:=q;unfold zM at e;dsimp only at e;cases c:A[n]? with
  |none=>rw[c]at e;cases e|some o=>
   rw[c]at e;obtain⟨g,d,r⟩:=S.ob n o c;rw[f]at d;cases d;cases o with
   |lst xs=>cases e;obtain⟨y,b,h⟩:=r;exact⟨a,y,E,z8.of b,h⟩|ro xs=>cases e;obtain⟨y,b,h⟩:=r;exact⟨a,y,E,b.sq,h⟩|dct xs=>cases e|td _=>cases e|tr _=>cases e|tab _ _=>cases e|ins _ _=>cases e
 |non=>cases e|bl _=>cases e|clo _ _ _=>cases e|xc _=>cases e|fn _=>cases e|int _=>cases e|str _=>cases e
def JK {K:Frag}{a:a8}{A:Hx}{h:Hp}{w:W}{b:List W}{p:Addr}(q:RV K φ H w (.ref p))(lw:kD K φ H a h)(S:zu K a A h)(E:zM w A=some b):∃y,jv (kO w) K h p y/\zo K a h b y:=by
 obtain⟨P,ys,e,d,c⟩:=Qb S (RV.monoW lw q) E;cases e;exact⟨ys,d,c⟩
def IL {K:Frag}{w:W}{p:Addr}(q:RV K φ H w (.ref p)):kz K φ H (Y3 w n) (Kn (kO w) K p):=λi c l k lw S=>by
 unfold Y3;dsimp only;cases es:zM w k with
 |none=>exact⟨λ_ z=>(by cases z),λz=>(by cases z)⟩|some ws=>
  dsimp only;obtain⟨ys,a,b⟩:=JK q lw S es;unfold atEnd;cases E:ws[i]? with
  |none=>
   dsimp only
   by_cases h:ws.length=i
   ·rw[af h]
    exact⟨λ_ z=>(by cases z),λ_=>⟨ys,a,by rw[<- b.length];exact h⟩⟩
   ·rw[ag h]
    exact⟨λ_ z=>(by cases z),λz=>(by cases z)⟩
  |some x=>
   dsimp only;refine⟨λu z=>?_,λz=>(by cases z)⟩
   cases z;obtain⟨y,e,j⟩:=b.get E;refine⟨⟨ys,y,a,e⟩,λX H1 ⟨t,Y,d,f,ex,g⟩=>?_⟩;subst ex g
   have:=d ys a
   rw[e]at this;cases this;obtain⟨a1,a2,A⟩:=gu S f (.cons (w:=.int i) (v:=.int i) rfl (.one j));exact⟨a1,a2,A⟩
def wB (m:Ev):Ei:=λρ A=>(m ρ A).bind λw A1=>match zM w A1 with
 |some ws=>.ok (Y3 w ws.length) A1|none=>.bad
end
section
variable {prog:Program}{A:Around}{z TI TO i1 i2 l1 l2:Addr}{n1 n2:Nat}{c1 c2:Bool}{xs ys:Array Value}{x y a b:Value}
def Nv (D:ZipApart z TI TO i1 i2 l1 l2)(H:IsZip s.heap z TI TO .none)(I:IsPair s.heap TI (.ref i1) (.ref i2))(u:IsPair s.heap TO a b)
  (g1:qh c1 s.heap i1 l1 n1)(g2:qh c2 s.heap i2 l2 n2)(s1:qD c1 s.heap l1 xs)(s2:qD c2 s.heap l2 ys)(Y:xs[n1]? =some x)(X:ys[n2]? =some y)
  (hQ:∀h',IsZip h' z TI TO (rawInt s.heap.objs.size)->IsPair h' TI (.ref i1) (.ref i2)->IsPair h' TO x y->qh c1 h' i1 l1 (n1+1)->qh c2 h' i2 l2 (n2+1)->IsPair h' s.heap.objs.size x y->
   (∀c o,c≠z->c≠TO->c≠i1->c≠i2->s.heap.get? c=some o->h'.get? c=some o)->Q (.ref s.heap.objs.size) { s with heap:=h' }):
  wpAny (model prog w) A (Builtin.«zip.__next__» ⟨[.ref z],[]⟩) (λfin s'=>∃v,fin=.done (.ret v)/\Q v s') E s:=by
 show wpAny _ _ (field (.ref z) 2 >>= _) _ _ _;refine bt (wpAny_field H rfl (x:=.bool false) rfl ?_);show wpAny _ _ (field (.ref z) 3 >>= _) _ _ _;refine bt (wpAny_field H rfl (x:=.ref TI) rfl (bt (wpAny_seqItems I rfl ?_)));show wpAny _ _ (Builtin.SmallTypes.ownedTupleIsFree (.ref z) >>= _) _ _ _;refine bt ?_;unfold Builtin.SmallTypes.ownedTupleIsFree;refine bt (wpAny_field H rfl (x:=.none) rfl (bw ?_));simp only[if_true];refine bt (wpAny_rule (bt (wpAny_field H rfl (x:=.ref TO) rfl ?_)));refine bt (wpAny_setField_rec H (by simp) λha p sa=>?_);replace p:IsZip ha z TI TO .ellipsis:=p
 refine bt ?_;simp only[List.zipIdx_cons,List.zipIdx_nil,forIn_cons,forIn_nil];refine bt (bt (wpAny_onRaise ?_));show wpAny _ _ (Builtin.SmallTypes.nextOf (.ref i1) >>= _) _ _ _;refine bt (Qi (g1.to λo e=>sa.extBut _ _ D.i1z e) (s1.to λo e=>sa.extBut _ _ D.l1z e) Y λhb gb j=>bw ?_);have K:IsPair hb TO a b:=j.extBut _ _ D.TOi1 (sa.extBut _ _ D.TOz u);refine bt (wpAny_seqItems K rfl (bt (wpAny_updateSeq_pair K λP T sc=>bt (wpAny_letGo (bw ?_)))));replace T:IsPair P TO x b:=T;refine bt (bt (wpAny_onRaise ?_));show wpAny _ _ (Builtin.SmallTypes.nextOf (.ref i2) >>= _) _ _ _;have up:∀c o,c≠z->c≠i1->c≠TO->s.heap.get? c=some o->P.get? c=some o:=λc o f d h e=>sc.extBut _ _ h (j.extBut _ _ d (sa.extBut _ _ f e));refine bt (Qi (g2.to λo e=>up _ o D.i2z D.i12.symm D.TOi2.symm e) (s2.to λo e=>up _ o D.l2z D.l2i1 D.l2TO e) X λhd gd g=>bw ?_);have td:IsPair hd TO x b:=g.extBut _ _ D.TOi2 T;refine bt (wpAny_seqItems td rfl (bt (wpAny_updateSeq_pair td λhe t S=>bt (wpAny_letGo (bw (bw ?_))))));replace t:IsPair he TO x y:=t;refine bt (wpAny_seqItems t rfl (bt (wpAny_newTuple ?_)));have i:he.objs.size=s.heap.objs.size:=by rw[S.1,g.1,sc.1,j.1,sa.1]
 have C:IsZip he z TI TO .ellipsis:=S.extBut _ _ D.TOz.symm (g.extBut _ _ D.i2z.symm (sc.extBut _ _ D.TOz.symm (j.extBut _ _ D.i1z.symm p)));have N:∀c o,c≠z->c≠TO->c≠i1->c≠i2->s.heap.get? c=some o->he.get? c=some o:=λc o f d h r e=>S.extBut _ _ d (g.extBut _ _ r (up c o f h d e));have ge1:qh c1 he i1 l1 (n1+1):=((gb.to λo e=>sc.extBut _ _ D.TOi1.symm e).to λo e=>g.extBut _ _ D.i12 e).to λo e=>S.extBut _ _ D.TOi1.symm e;have B:qh c2 he i2 l2 (n2+1):=gd.to λo e=>S.extBut _ _ D.TOi2.symm e;have Z:z<he.objs.size:=aw C;show wpAny _ _ (Builtin.SmallTypes.ownedTupleHandOut (.ref z) (.ref he.objs.size) >>= _) _ _ _;refine bt ?_;unfold Builtin.SmallTypes.ownedTupleHandOut;have U:IsZip (he.push { cls:=.type "tuple",data:=.seq #[x,y] }) z TI TO .ellipsis:=aa _ C;refine bt (wpAny_setField_rec U (by simp) λhg n M=>?_);replace n:IsZip hg z TI TO (rawInt he.objs.size):=n
 refine wpAny_setField_rec n (by simp) λl k L=>?_;replace k:IsZip l z TI TO (rawInt he.objs.size):=k
 have fin:∀c o,c≠z->he.get? c=some o->l.get? c=some o:=λc o q e=>L.extBut _ _ q (M.extBut _ _ q (aa _ e));have J:IsPair l he.objs.size x y:=L.extBut _ _ (ne_of_gt Z) (M.extBut _ _ (ne_of_gt Z) (ah _ rfl));rw[i]at k J;refine bw ⟨_,rfl,?_⟩;show Q (.ref he.objs.size) _;rw[i];exact hQ l k (fin _ _ D.TIz (N _ _ D.TIz D.TITO D.TIi1 D.TIi2 I)) (fin _ _ D.TOz t) (ge1.to λo e=>fin _ o D.i1z e) (B.to λo e=>fin _ o D.i2z e) J λc o f d h r e=>fin c o f (N c o f d h r e)
def ML {Q:Fin->Shared->Prop}(J:A.handled=none)(D:ZipApart z TI TO i1 i2 l1 l2)(i:IsZip s.heap z TI TO .none)(I:IsPair s.heap TI (.ref i1) (.ref i2))(u:IsPair s.heap TO a b)
  (g1:qh c1 s.heap i1 l1 n1)(g2:qh c2 s.heap i2 l2 n2)(s1:qD c1 s.heap l1 xs)(s2:qD c2 s.heap l2 ys)(j:xs[n1]? =none∨ys[n2]? =none)
  (K:∀h' e,(∀c o,c≠z->c≠TO->c≠i1->c≠i2->s.heap.get? c=some o->h'.get? c=some o)->(∃o,h'.get? e=some o/\o.cls=.type "StopIteration")->E (.ref e) { s with heap:=h' }):
  wpAny (model prog w) A (Builtin.«zip.__next__» ⟨[.ref z],[]⟩) Q E s:=by
 show wpAny _ _ (field (.ref z) 2 >>= _) _ _ _;refine bt (wpAny_field i rfl (x:=.bool false) rfl ?_);show wpAny _ _ (field (.ref z) 3 >>= _) _ _ _;refine bt (wpAny_field i rfl (x:=.ref TI) rfl (bt (wpAny_seqItems I rfl ?_)));show wpAny _ _ (Builtin.SmallTypes.ownedTupleIsFree (.ref z) >>= _) _ _ _;refine bt ?_;unfold Builtin.SmallTypes.ownedTupleIsFree;refine bt (wpAny_field i rfl (x:=.none) rfl (bw ?_));simp only[if_true];refine bt (wpAny_rule (bt (wpAny_field i rfl (x:=.ref TO) rfl ?_)));refine bt (wpAny_setField_rec i (by simp) λt Z sa=>?_);replace Z:IsZip t z TI TO .ellipsis:=Z
 refine bt ?_;simp only[List.zipIdx_cons,List.zipIdx_nil,forIn_cons,forIn_nil];refine bt (bt (wpAny_onRaise ?_));show wpAny _ _ (Builtin.SmallTypes.nextOf (.ref i1) >>= _) _ _ _;have ga:=g1.to (h':=t) λo e=>sa.extBut _ _ D.i1z e;have Y:=s1.to (h':=t) λo e=>sa.extBut _ _ D.l1z e;cases n:xs[n1]? with
 |none=>
  refine bt (YA J ga Y n λr e S he=>?_);obtain⟨l,h,H⟩:=he;have y:IsZip r z TI TO .ellipsis:=S _ _ D.i1z.symm Z;have f:e≠z:=λq=>by subst q;rw[y]at h;cases h;simp at H
  exact wpAny_setField_rec y (by simp) λp _ sc=>K p e (λc o d _ g _ q=>sc.extBut _ _ d (S _ _ g (sa.extBut _ _ d q))) ⟨l,sc.extBut _ _ f h,H⟩
 |some x=>
  have M:ys[n2]? =none:=by
   rcases j with q|q
   ·rw[n]at q;cases q
   ·exact q
  refine bt (Qi ga Y n λr P S=>bw ?_);have T:IsPair r TO a b:=S.extBut _ _ D.TOi1 (sa.extBut _ _ D.TOz u);refine bt (wpAny_seqItems T rfl (bt (wpAny_updateSeq_pair T λp N sc=>bt (wpAny_letGo (bw ?_)))));refine bt (bt (wpAny_onRaise ?_));show wpAny _ _ (Builtin.SmallTypes.nextOf (.ref i2) >>= _) _ _ _;have up:∀c o,c≠z->c≠i1->c≠TO->s.heap.get? c=some o->p.get? c=some o:=λc o d k g e=>sc.extBut _ _ g (S.extBut _ _ k (sa.extBut _ _ d e));refine bt (YA J (g2.to λo e=>up _ o D.i2z D.i12.symm D.TOi2.symm e) (s2.to λo e=>up _ o D.l2z D.l2i1 D.l2TO e) M λhd e C he=>?_);obtain⟨l,h,H⟩:=he;have v:IsZip hd z TI TO .ellipsis:=C _ _ D.i2z.symm (sc.extBut _ _ D.TOz.symm (S.extBut _ _ D.i1z.symm Z));have f:e≠z:=λq=>by subst q;rw[v]at h;cases h;simp at H
  exact wpAny_setField_rec v (by simp) λhf _ B=>K hf e (λc o d k g L q=>B.extBut _ _ d (C _ _ L (up c o d g k q))) ⟨l,B.extBut _ _ f h,H⟩
def OP {Q:Option Value->Shared->Prop}(D:ZipApart z TI TO i1 i2 l1 l2)(d:IsZip s.heap z TI TO .none)(H:IsPair s.heap TI (.ref i1) (.ref i2))(h:IsPair s.heap TO a b)
  (g1:qh c1 s.heap i1 l1 n1)(g2:qh c2 s.heap i2 l2 n2)(s1:qD c1 s.heap l1 xs)(s2:qD c2 s.heap l2 ys)(n:xs[n1]? =some x)(l:ys[n2]? =some y)
  (p:∀h',IsZip h' z TI TO (rawInt s.heap.objs.size)->IsPair h' TI (.ref i1) (.ref i2)->IsPair h' TO x y->qh c1 h' i1 l1 (n1+1)->qh c2 h' i2 l2 (n2+1)->IsPair h' s.heap.objs.size x y->
   (∀c o,c≠z->c≠TO->c≠i1->c≠i2->s.heap.get? c=some o->h'.get? c=some o)->Q (some (.ref s.heap.objs.size)) { s with heap:=h' }):wpAny (model prog w) A (pyNext (.ref z)) Q E s:=by
 have hT:s.TypeIs (.ref z) "zip":=⟨_,d,rfl⟩;unfold pyNext;exact bt (wpAny_attempt (wpAny_callSpecial?_slot (name:=Str.ofString "__next__") hT F.slot_zip_next (wpAny_call_entry F.slot_zip_next hT F.entry_zip_next
  (Nv D d H h g1 g2 s1 s2 n l λh' k j i g f e q=>bw (p h' k j i g f e q)) (F.args_zip_next_1 _))))
def OU {Q:Option Value->Shared->Prop}(g:A.handled=none)(D:ZipApart z TI TO i1 i2 l1 l2)(d:IsZip s.heap z TI TO .none)(I:IsPair s.heap TI (.ref i1) (.ref i2))(H:IsPair s.heap TO a b)
  (g1:qh c1 s.heap i1 l1 n1)(g2:qh c2 s.heap i2 l2 n2)(s1:qD c1 s.heap l1 xs)(s2:qD c2 s.heap l2 ys)(h:xs[n1]? =none∨ys[n2]? =none)
  (j:∀h',(∀c o,c≠z->c≠TO->c≠i1->c≠i2->s.heap.get? c=some o->h'.get? c=some o)->Q none { s with heap:=h' }):wpAny (model prog w) A (pyNext (.ref z)) Q E s:=by
 have hT:s.TypeIs (.ref z) "zip":=⟨_,d,rfl⟩;unfold pyNext;refine bt (wpAny_attempt (wpAny_callSpecial?_slot (name:=Str.ofString "__next__") hT F.slot_zip_next (wpAny_call_entry F.slot_zip_next hT F.entry_zip_next (ML g D d I H g1 g2 s1 s2 h λh' e k he=>?_) (F.args_zip_next_1 _))));obtain⟨o,f,i⟩:=he;exact bt (wpAny_isInstance (T := "StopIteration") (b:=true) ⟨o,f,i⟩ isSubtype_stop (bw (j _ k)))
end
abbrev QJ (h:Heap)(c:Bool)(l1:Addr):Heap:=h.push { cls:=.type (wI c),data:=.fields #[.ref l1,.int 0 0] }
abbrev QW (h:Heap)(C c:Bool)(l1 l2:Addr):Heap:=(QJ h C l1).push { cls:=.type (wI c),data:=.fields #[.ref l2,.int 0 0] }
abbrev QP (h:Heap)(c C:Bool)(l1 l2:Addr):Heap:=(QW h c C l1 l2).push { cls:=.type "tuple",data:=.seq #[.ref h.objs.size,.ref (QJ h c l1).objs.size] }
abbrev QY (h:Heap)(C c:Bool)(l1 l2:Addr):Heap:=(QP h C c l1 l2).push { cls:=.type "tuple",data:=.seq #[.none,.none] }
abbrev gF (h:Heap)(C c:Bool)(l1 l2:Addr):Heap:=(QY h C c l1 l2).push { cls:=.type "zip",data:=.fields #[.none,.bool false,.bool false,.ref (QW h C c l1 l2).objs.size,.ref (QP h C c l1 l2).objs.size] }
def Rh (c C:Bool)(l1 l2:Addr)(xs ys:Array Value):
  Meets (Builtin.«zip.__new__» ⟨[.type "zip",.ref l1,.ref l2],[]⟩) (λ_ R s=>qD c s.heap l1 xs/\qD C s.heap l2 ys/\R (.ok (.ret (.ref (QY s.heap c C l1 l2).objs.size))) { s with heap:=gF s.heap c C l1 l2 }):=
 .of_wp λprog w A R s h=>by
  obtain⟨p,g,d,t,os⟩:=s;obtain⟨Q,q,h⟩:=h;have H:=sub_zip;have k1:qD c (Shared.heap ⟨p,g,d,t,os⟩) l1 xs:=Q;have k2:qD C (Shared.heap ⟨p.push { cls:=.type (wI c),data:=.fields #[.ref l1,.int 0 0] },g,d,t,os⟩) l2 ys:=q.to λo e=>aa _ e
  wp_walk using Xc k1,Xc k2
  exact⟨_,rfl,h⟩
section
variable {prog:Program}{A:Around}{c1 c2:Bool}{l1 l2:Addr}{xs ys:Array Value}
def Pp (s1:qD c1 s.heap l1 xs)(s2:qD c2 s.heap l2 ys)
  (h:∀h' n,n=s.heap.objs.size->IsZip h' (n+4) (n+2) (n+3) .none->IsPair h' (n+2) (.ref n) (.ref (n+1))->IsPair h' (n+3) .none .none->qh c1 h' n l1 0->qh c2 h' (n+1) l2 0->
   (∀c o,s.heap.get? c=some o->h'.get? c=some o)->Q (.ref (n+4)) { s with heap:=h' }):wpAny (model prog w) A (call (.type "zip") [.ref l1,.ref l2]) Q E s:=by
 refine callType_new F.called_zip (by decide) (F.typeCall_zip_2 _ _) (F.newCall_zip_2 _ _) (λobj=>F.args_object_init_3 obj _ _) F.entry_zip_new (Rh c1 c2 l1 l2 xs ys) ⟨s1,s2,?_⟩
 have a:(QJ s.heap c1 l1).objs.size=s.heap.objs.size+1:=aN ..;have Z:(QW s.heap c1 c2 l1 l2).objs.size=s.heap.objs.size+2:=by rw[aN,a]
 have z:(QP s.heap c1 c2 l1 l2).objs.size=s.heap.objs.size+3:=by rw[aN,Z]
 have b:(QY s.heap c1 c2 l1 l2).objs.size=s.heap.objs.size+4:=by rw[aN,z]
 have y:(gF s.heap c1 c2 l1 l2).get? (QY s.heap c1 c2 l1 l2).objs.size=some _:=ah _ rfl;have Y:(gF s.heap c1 c2 l1 l2).get? (QP s.heap c1 c2 l1 l2).objs.size=some _:=aa _ (ah _ rfl);have d:(gF s.heap c1 c2 l1 l2).get? (QW s.heap c1 c2 l1 l2).objs.size=some _:=aa _ (aa _ (ah _ rfl));have e:(gF s.heap c1 c2 l1 l2).get? (QJ s.heap c1 l1).objs.size=some _:=aa _ (aa _ (aa _ (ah _ rfl)));have f:(gF s.heap c1 c2 l1 l2).get? s.heap.objs.size=some _:=aa _ (aa _ (aa _ (aa _ (ah _ rfl))));show _/\_;rw[Z,z,b]at y;rw[a,Z]at d;rw[z]at Y;rw[a]at e;rw[b];exact⟨⟨_,y,rfl⟩,h _ _ rfl y d Y (.mk ⟨_,f,rfl,rfl⟩) (.mk ⟨_,e,rfl,rfl⟩) λc o q=>
  aa _ (aa _ (aa _ (aa _ (aa _ q))))⟩
end
def Ki (C c:Bool)(K:Frag)(p q:Addr):It:=
 ⟨λi H=>∃xs ys x y,jv C K H p xs/\jv c K H q ys/\xs[i]? =some x/\ys[i]? =some y,
  λi H v h=>∃t x y,(∀xs,jv C K H p xs->xs[i]? =some x)/\(∀ys,jv c K H q ys->ys[i]? =some y)/\H t=none/\v=.ref t/\h=upd H t (.tup [x,y]),
  λi H=>∃xs ys,jv C K H p xs/\jv c K H q ys/\(xs[i]? =none∨ys[i]? =none)⟩
def R7 {K:Frag}(c1 c2:Bool)(p q z TI TO t r:Addr)(D:ZipApart z TI TO t r p q):
  Turn P w K (.Tuple elts kk tpos) (Ki c1 c2 K p q) [z,TI,TO,t,r] z (λi h=>IsZip h z TI TO .none/\IsPair h TI (.ref t) (.ref r)/\(∃a b,IsPair h TO a b)/\qh c1 h t p i/\qh c2 h r q i) where
 mem:=by simp
 obj:=λi h st b d=>by
  obtain⟨j,g,⟨T,Q,f⟩,g1,g2⟩:=st;simp only[mem_cons,not_mem_nil,or_false]at d;rcases d with rfl|rfl|rfl|rfl|rfl
  ·exact⟨_,j,λv e=>nomatch e⟩
  ·exact⟨_,g,λv e=>nomatch e⟩
  ·exact⟨_,f,λv e=>nomatch e⟩
  ·obtain⟨o,B,_,hd⟩:=g1.ob;exact⟨o,B,λv e=>by rw[hd]at e;cases e⟩
  ·obtain⟨o,B,_,hd⟩:=g2.ob;exact⟨o,B,λv e=>by rw[hd]at e;cases e⟩
 keep:=λi h h' ⟨j,g,⟨T,Q,f⟩,g1,g2⟩ k=>⟨k z (by simp) _ j,k TI (by simp) _ g,⟨T,Q,k TO (by simp) _ f⟩,g1.to λo e=>k t (by simp) o e,g2.to λo e=>k r (by simp) o e⟩
 item:=by
  intro X hP hw hK hc i pins s σ H E I hf st hg;subst hP hw hK;obtain⟨j,g,⟨T,Q,f⟩,g1,g2⟩:=st;obtain⟨xs,ys,x,y,N,M,ex,ey⟩:=hg;obtain⟨n,r1,u,_⟩:=I.sq N;obtain⟨l,r2,S,_⟩:=I.sq M;obtain⟨Y,eu1,ru1⟩:=r1.get ex;obtain⟨U,eu2,Z⟩:=r2.get ey;refine OP D j g f g1 g2 u S (x:=Y) (y:=U) (by simpa using eu1) (by simpa using eu2) λhh z1 z2 z3 z4 z5 z6 kp=>?_
  refine⟨_,rfl,wpAny_letOwnedTupleGo_zip z1 λhk zk J=>?_⟩;have lt:∀{c o},s.heap.get? c=some o->c≠s.heap.objs.size:=λe=>az (aw e);have T2:IsPair hk s.heap.objs.size Y U:=J.extBut _ _ (lt j).symm z6;have fre:∀b∈[z,TI,TO,t,r],b≠s.heap.objs.size:=λb d=>by
   simp only[mem_cons,not_mem_nil,or_false]at d;rcases d with rfl|rfl|rfl|rfl|rfl
   ·exact lt j
   ·exact lt g
   ·exact lt f
   ·obtain⟨o,B,_⟩:=g1.ob;exact lt B
   ·obtain⟨o,B,_⟩:=g2.ob;exact lt B
  refine⟨.ref s.heap.objs.size,upd H s.heap.objs.size (.tup [x,y]),?_,rfl,⟨s.heap.objs.size,x,y,λzs A=>by rw[I.sq_inj A N];exact ex,λzs A=>by rw[I.sq_inj A M];exact ey,I.hok.fresh (ak _),rfl,rfl⟩,
   ⟨zk,J.extBut _ _ D.TIz z2,⟨_,_,J.extBut _ _ D.TOz z3⟩,z4.to λo e=>J.extBut _ _ D.i1z e,z5.to λo e=>J.extBut _ _ D.i2z e⟩,λb d=>?_⟩
  ·refine I.spun (fp:=[z,TI,TO,t,r]) (t':=s.toks) (λb o d eo=>?_) hf (ak _) ?_
   ·exact J.extBut _ _ (λe=>d (by simp[e])) (kp b o (λe=>d (by simp[e])) (λe=>d (by simp[e])) (λe=>d (by simp[e])) (λe=>d (by simp[e])) eo)
   ·exact⟨by show 2<=sizeLine;decide,[Y,U],.cons ru1 (.cons Z .nil),_,T2,⟨rfl,rfl⟩,0,rfl⟩
  ·show upd H s.heap.objs.size _ b=none
   rw[zF (fre b d)];exact(hf b d).1
 done:=by
  intro X hP hw hK hc i pins s σ H E I hf st hg;subst hP hw hK;obtain⟨j,g,⟨T,Q,f⟩,g1,g2⟩:=st;obtain⟨xs,ys,N,M,L⟩:=hg;obtain⟨n,r1,u,_⟩:=I.sq N;obtain⟨l,r2,S,_⟩:=I.sq M;have C:n.toArray[i]? =none∨l.toArray[i]? =none:=by
   rcases L with e|e
   ·exact .inl (by simpa using r1.none_of e)
   ·exact .inr (by simpa using r2.none_of e)
  exact OU (I.ok.hd hc) D j g f g1 g2 u S C λhh kp=>⟨rfl,I.spun0 (fp:=[z,TI,TO,t,r]) (t':=s.toks) (λb o d eo=>kp b o (λe=>d (by simp[e])) (λe=>d (by simp[e])) (λe=>d (by simp[e])) (λe=>d (by simp[e])) eo) hf⟩
 self:=λ_ _ _ _ _ st h=>wpAny_pyIter_zip st.1 h
section
variable {a b:Expr}{m:Ev}
def Hk (K:Frag)(t:TA):TI:=λσ H R=>t σ H λvs H1=>∃p q C c xs ys,vs=[.ref p,.ref q]/\jv C K H1 p xs/\jv c K H1 q ys/\R (Ki C c K p q) H1
def N4 {T:TA}(P:Gl X "zip")(hm:X.mg "zip"=none)(U:PA X [a,b] T)(M:starEach [a,b] X.env=(false,eval a X.env)::starEach [b] X.env)(N:(backTo pos (starEach [b] X.env)).any (·.1)=false):
  PI X (.Tuple elts kk tpos) (.Call (.Name "zip" p) [a,b] [] pos) (Hk X.K T):=by
 intro pins s σ H R I h;refine Call_ (wy I P hm boot_zip (PyProof.Rows.callWith_type1 (zw (U pos pins s σ H _ I h) λus s1 ⟨vs,H1,g,J,Q⟩=>?_) M N));obtain⟨p,q,c1,c2,xs,ys,rfl,h1,h2,Y⟩:=Q;obtain⟨u1,u2,rfl,k,r⟩:=J.two;cases k;cases r;obtain⟨v,C,d,_⟩:=g.sq h1;obtain⟨u,B,S,_⟩:=g.sq h2;obtain⟨op,t,_⟩:=d.ob;obtain⟨oq,o,_⟩:=S.ob;have L:p<s1.heap.objs.size:=aw t;have l:q<s1.heap.objs.size:=aw o;refine Pp d S λh' n E z A y x Z kp=>wpAny_pyIter_zip z ?_;rw[<- E]at L l;have ne1:∀(i j:Nat),i≠j->n+i≠n+j:=λi j h e=>h (Nat.add_left_cancel e);have ne2:∀(c:Nat)(i:Nat),c<n->c≠n+i:=λc i h e=>absurd h (by rw[e];exact Nat.not_lt.mpr (le_add_right n i))
 have D:ZipApart (n+4) (n+2) (n+3) (n+0) (n+1) p q:=⟨ne1 2 4 (by decide),ne1 3 4 (by decide),ne1 0 4 (by decide),ne1 1 4 (by decide),ne1 2 3 (by decide),ne1 2 0 (by decide),ne1 2 1 (by decide),ne1 3 0 (by decide),ne1 3 1 (by decide),ne1 0 1 (by decide),
  ne2 p 4 L,ne2 p 3 L,ne2 p 0 L,ne2 p 1 L,ne2 q 4 l,ne2 q 3 l,ne2 q 0 l,ne2 q 1 l⟩
 refine⟨n+4,[n+4,n+2,n+3,n,n+1],_,_,H1,rfl,g.kept (t':=s1.toks) kp,R7 c1 c2 p q _ _ _ _ _ D,⟨z,A,⟨_,_,y⟩,x,Z⟩,λc w=>?_,Y⟩;have f:s1.heap.objs.size<=c:=by
  rw[<- E];simp only[mem_cons,not_mem_nil,or_false]at w;rcases w with rfl|rfl|rfl|rfl|rfl
  ·exact le_add_right _ _
  ·exact le_add_right _ _
  ·exact le_add_right _ _
  ·exact ak _
  ·exact le_add_right _ _
 exact g.fpOk f (g.hok.fresh f)
noncomputable def zip2:Option W->Option W->Option W
 |some x,some y=>some (.tup [x,y])|_,_=>none
def Ka (w a:W)(n:Nat):qM:=⟨λA i=>match zM w A,zM a A with
 |some us,some vs=>some (zip2 us[i]? vs[i]?)|_,_=>none,n⟩
def LI {K:Frag}{w a:W}{p P:Addr}(q:RV K φ H w (.ref p))(Q:RV K φ H a (.ref P)):kz K φ H (Ka w a n) (Ki (kO w) (kO a) K p P):=λi c I A lw S=>by
 unfold Ka;dsimp only;cases es:zM w A with
 |none=>exact⟨λ_ z=>(by cases z),λz=>(by cases z)⟩|some us=>
  cases E:zM a A with
  |none=>exact⟨λ_ z=>(by cases z),λz=>(by cases z)⟩|some vs=>
   dsimp only;obtain⟨xs,b,f⟩:=JK q lw S es;obtain⟨ys,h,d⟩:=JK Q lw S E;have non:∀{us:List W}{xs:List V},zo K c I us xs->us[i]? =none->xs[i]? =none:=λr e=>by
    rw[List.getElem?_eq_none_iff]at e ⊢;rw[<- r.length];exact e
   cases k:us[i]? with
   |none=>exact⟨λ_ z=>(by cases z),λ_=>⟨xs,ys,b,h,.inl (non f k)⟩⟩|some x=>
    cases j:vs[i]? with
    |none=>exact⟨λ_ z=>(by cases z),λ_=>⟨xs,ys,b,h,.inr (non d j)⟩⟩|some y=>
     refine⟨λu z=>?_,λz=>(by cases z)⟩
     cases z;obtain⟨l,f1,f2⟩:=f.get k;obtain⟨v,g,f4⟩:=d.get j;refine⟨⟨xs,ys,l,v,b,h,f1,g⟩,λX H1 ⟨t,J,Y,s,o,B,ex,C⟩=>?_⟩;subst ex C;have g1:=s xs b;have g2:=o ys h;rw[f1]at g1;cases g1;rw[g]at g2;cases g2;obtain⟨a1,a2,D⟩:=gu S B (.cons f2 (.one f4));exact⟨a1,a2,D⟩
def X8 (m M:Ev):Ei:=λρ A=>(m ρ A).bind λw A1=>(M ρ A1).bind λb a=>match zM w a,zM b a with
 |some us,some _=>.ok (Ka w b us.length) a|_,_=>.bad
variable {K:Frag}{c:Expr}
noncomputable def Y9:Ev:=λ_ A=>.ok (.ref A.length) (A++[.dct []])
noncomputable def Vm:W->Option Key
 |.int i=>some (.inl i)|_=>none
noncomputable def kq (k:Key):List (Key×W)->Option W
 |[]=>none|(j,w)::r=>if j=k then some w else kq k r
theorem W2 (k:Key):∀{kvs:List (Key×W)}{us:List (Key×V)},us.map (·.1)=kvs.map (·.1)->zo K φ H (kvs.map (·.2)) (us.map (·.2))->
  (∀w,kq k kvs=some w->∃v,jW us k=some v/\RV K φ H w v)/\(kq k kvs=none->jW us k=none)
 |[],[],_,_=>⟨λw h=>(by cases h),λ_=>rfl⟩|[],_::_,h,_=>by simp at h|_::_,[],h,_=>by simp at h|(j,w)::kvs,(J,v)::us,h,r=>by
  simp only[aP,List.cons.injEq]at h;obtain⟨g,l,e,d,c⟩:=r;simp only[aP,List.cons.injEq]at e;obtain⟨rfl,rfl⟩:=e;have i:=W2 k h.2 c;have b:J=j:=h.1;subst b
  by_cases a:J=k
  ·refine⟨λf hw=>⟨v,JX a,?_⟩,λhn=>?_⟩
   ·unfold kq at hw;rw[af a]at hw;cases hw;exact d
   ·unfold kq at hn;rw[af a]at hn;cases hn
  ·unfold kq
   rw[ag a,J2 (p:=(J,v)) a];exact i
theorem zu.dct {A:Hx}{kvs:List (Key×W)}(S:zu K φ A H)(q:RV K φ H (.ref n) v)(e:A[n]? =some (.dct kvs)):∃p us,v=.ref p/\φ[n]? =some p/\H p=some (.dK us)/\us.map (·.1)=kvs.map (·.1)/\zo K φ H (kvs.map (·.2)) (us.map (·.2)):=by
 obtain⟨p,rfl,a⟩:=q;obtain⟨P,h,us,d,c,b⟩:=S.ob n _ e;rw[a]at h;cases h;exact⟨p,us,rfl,a,d,c,b⟩
def Nn:V->List V->Hp->VK->Prop:=λx vs H Q=>∃p us k d,x=.ref p/\vs=[kV k,d]/\H p=some (.dK us)/\us.length<sizeLine/\(∀v,jW us k=some v->Q v H)/\(jW us k=none->Q d (upd H p (.dK (putK us k d))))
def Rq:ky X "dict.setdefault" Nn:=by
 intro pins s σ H x vs v us Q I g i h;obtain⟨p,kvs,k,d,rfl,rfl,f,A,n,l⟩:=h;cases g;obtain⟨U,u,rfl,j,c⟩:=i.two;obtain⟨z,hd,ws,rel,dd⟩:=XU I.hok f;refine call_meetsIn PySem.F.slot_dict_setdefault dd.typeIs PySem.F.entry_dict_setdefault (PySem.F.args_dict_setdefault_3 _ _ _) (kt_meets_setdefault (jU X.prog X.w) p (Ip j) hd u) ⟨ws,dd,by rw[<- rel.length];exact z,λv o=>?_,λhn h' D t=>?_⟩
 ·have r:=rel.val k
  rw[o]at r;cases e:jW kvs k with
  |none=>rw[e]at r;exact r.elim|some a=>rw[e]at r;exact⟨a,H,I.tok _,r,n a e⟩
 ·have r:=rel.val k
  rw[hn]at r;cases e:jW kvs k with
  |some a=>rw[e]at r;exact r.elim|none=>
   have b:(putK kvs k d).length<=sizeLine:=by have:=TC kvs k d;omega
   have he:∃q,h'.get? p=some q:=let ⟨q,_,_,y,_⟩:=D;⟨q,y⟩
   exact⟨d,_,Nf I (by rw[f];exact True.intro) t he (N6 b hd (rel.put k c) D),c,l e⟩
noncomputable def Jh (x:W)(A:Hx):Bool:=match x with
 |.ref n=>match A[n]? with
  |some (.dct _)=>true|_=>false
 |_=>false
def Ye:W->W->W->Hx->R W:=λd k v A=>match d,Vm k with
 |.ref n,some k=>match A[n]? with
  |some (.dct kvs)=>if kvs.length<qm then(match kq k kvs with
   |some w=>.ok w A|none=>.ok v (A.set n (.dct (kvs++[(k,v)])))) else .bad
  |_=>.bad
 |_,_=>.bad
def Xg (g:W->W->W->Hx->R W)(a b c:Ev):Ev:=λρ A=>(a ρ A).bind λx A1=>if Jh x A1 then(b ρ A1).bind λy e=>(c ρ e).bind λz d=>g x y z d else .bad
def Ov {A:Hx}{w:W}(S:zu K φ A H)(q:RV K φ H w v)(e:Jh w A=true):Q8 K "dict" v H:=by
 unfold Jh at e;cases w with
 |ref n=>
  dsimp only at e;cases E:A[n]? with
  |none=>rw[E]at e;cases e|some o=>cases o with
   |dct ws=>obtain⟨p,us,rfl,_,h,_⟩:=S.dct q E;exact .inr (.inr (.inl ⟨rfl,.inl ⟨us,h⟩⟩))|_=>rw[E]at e;cases e
 |_=>cases e
end
def Ke (d:Addr)(o:Obj)(us:List (Key×V)):It:=
 ⟨λi H=>H d=some (.frz o (.dK us))/\i<us.length,λi H x h=>∃t p,us[i]? =some p/\H t=none/\x=.ref t/\h=upd H t (.tup [kV p.1,p.2]),λi H=>H d=some (.frz o (.dK us))/\us[i]? =none⟩
def NX {k:Key}(h:(jU P w).is k u=true):RelV (kV k) u:=by
 rw[Sh]at h;rcases yJ h with ⟨i,t,rfl,rfl⟩|⟨x,t,rfl,rfl⟩
 ·exact⟨t,rfl⟩
 ·exact⟨t,rfl⟩
theorem KV.at:∀{us:List (Key×V)}{vs:List (Key×Value)}{i:Nat}{p:Key×V},KV us vs->us[i]? =some p->∃u,vs[i]? =some (p.1,u)/\RelV p.2 u
 |[],_,_,_,_,e=>by simp at e|q::us,_,0,p,.cons (b:=b) r t,e=>by
  simp at e;subst e;exact⟨b.2,by simp only[List.getElem?_cons_zero];rw[r.1],r.2⟩
 |q::us,_,i+1,p,.cons r t,e=>by
  obtain⟨u,H,h⟩:=KV.at (i:=i) (p:=p) t (by simpa using e)
  exact⟨u,by simpa using H,h⟩
section
def _root_.L2.Inv.frzD {d:Addr}{o:Obj}{us:List (Key×V)}{g:Nat}(I:Inv X pins σ H s)(h:H d=some (.frz o (.dK us)))(p:∃E,o.data=.dict E g):∃vs,KV us vs/\s.heap.DictAt (jU X.prog X.w) d vs g:=by
 obtain⟨a,z,hd,vs,rel,dd⟩:=I.hok d _ h;obtain⟨j,o',e,f,i,c,r⟩:=dd.dictAt;rw[a]at f;cases f;obtain⟨E,he⟩:=p;have b:=c;rw[he]at b;injection b with l k
 subst k;exact⟨vs,rel,o,e,a,i,c,r⟩
end
def Oi:entryFor table "dict_itemiterator.__iter__"=some Builtin.«dict_keyiterator.__iter__»:=entryFor_alias (id' := "dict_keyiterator.__iter__") (by kernel_rfl)
 (by first|rfl|decide +kernel|(unfold String.splitOn;simp +decide [String.splitOnAux])) (by decide +kernel) (by kernel_rfl)
def Sg {K:Frag}(d it:Addr)(o:Obj)(us:List (Key×V))(l:Nat)(j:∃Y,o.data=.dict Y l):
  Turn P w K (.Tuple elts kk tpos) (Ke d o us) [it] it (λi h=>∃ok a,IsItemIter h it d i us.length l ok a) where
 mem:=by simp
 obj:=λi h ⟨ok,a,st⟩ b c=>by
  rw[List.mem_singleton.mp c];exact⟨_,st,λv e=>nomatch e⟩
 keep:=λi h h' ⟨ok,a,st⟩ k=>⟨ok,a,k it (by simp) _ st⟩
 item:=by
  intro X r hw t B i pins s σ H E I hf st n;subst r hw t;obtain⟨ok,a,st⟩:=st;obtain⟨hd,g⟩:=n;obtain⟨vs,rel,D⟩:=I.frzD hd j;obtain⟨u,L,C⟩:=KV.at rel (i:=i) (p:=us[i]) (by simp[g])
  have S:IsItemIter s.heap it d i vs.length l ok a:=by rw[<- rel.length];exact st
  refine wpAny_pyNext_items_item S D L λkey U y N hT M kp=>⟨_,rfl,wpAny_letOwnedTupleGo_items N λT q f=>?_⟩;have lt:it<s.heap.objs.size:=aw st;have Z:T.get? s.heap.objs.size=some { cls:=.type "tuple",data:=.seq #[key,u] }:=f.extBut _ _ (ne_of_gt lt) hT;refine⟨.ref s.heap.objs.size,upd H s.heap.objs.size (.tup [kV us[i].1,us[i].2]),?_,rfl,⟨s.heap.objs.size,us[i],by simp[g],I.hok.fresh (ak _),rfl,rfl⟩,⟨_,_,by rw[rel.length];exact q⟩,λb c=>?_⟩
  ·refine I.spun (fp:=[it]) (t':=s.toks) (λb ob c x=>?_) hf (ak _) ?_
   ·exact f.extBut _ _ (λz=>c (by simp[z])) (kp b ob (λz=>c (by simp[z])) x)
   ·exact⟨by show 2<=sizeLine;decide,[key,u],.cons (NX y) (.cons C .nil),_,Z,⟨rfl,rfl⟩,0,rfl⟩
  ·show upd H s.heap.objs.size _ b=none
   have bn:b≠s.heap.objs.size:=λz=>by rw[List.mem_singleton.mp c]at z;exact absurd lt (by rw[z];exact aB _)
   rw[zF bn];exact(hf b c).1
 done:=by
  intro X r hw t B i pins s σ H E I hf st n;subst r hw t;obtain⟨ok,a,st⟩:=st;obtain⟨hd,g⟩:=n;obtain⟨vs,rel,D⟩:=I.frzD hd j;have S:IsItemIter s.heap it d i vs.length l ok a:=by rw[<- rel.length];exact st
  have hn:vs[i]? =none:=by
   rw[List.getElem?_eq_none_iff]at g ⊢;rw[<- rel.length];exact g
  exact wpAny_pyNext_items_end (I.ok.hd B) S D hn λU J=>⟨rfl,I.spun0 (fp:=[it]) (t':=s.toks) (λb ob c x=>J b ob (λz=>c (by simp[z])) x) hf⟩
 self:=λA i s Q E ⟨ok,a,st⟩ h=>by
  have hT:s.TypeIs (.ref it) "dict_itemiterator":=⟨_,st,rfl⟩;refine wpAny_pyIter_slot hT F.slot_dict_itemiterator_iter (wpAny_call_entry F.slot_dict_itemiterator_iter hT Oi ?_ (F.args_dict_itemiterator_iter_1 _));show wpAny _ _ (ret (.ref it)) _ _ s;exact bw ⟨_,rfl,"dict_itemiterator",_,hT,F.slot_dict_itemiterator_next.lookup,h⟩
section
variable {a b:Expr}{m:Ev}
def N8 (td:TE):TI:=λσ H R=>td σ H λx H1=>∃d us,x=.ref d/\H1 d=some (.dK us)/\∀o,R (Ke d o us) (upd H1 d (.frz o (.dK us)))
def Pn {td:TE}(u:PE X a td)(i:attributeBase a "items" X.env (eval a X.env)=eval a X.env)(g:(apos.endLine==cpos.line)=true):
  PI X (.Tuple elts kk tpos) (.Call (.Attribute a "items" apos) [] [] cpos) (N8 td):=by
 intro pins s σ H R I h;refine wpAny_Call_method0_late i g (zw (u pins s σ H _ I h) λv s1 ⟨x,H1,l,n,d,us,ex,hd,q⟩=>?_);subst ex;cases n;obtain⟨z,f,vs,rel,dd⟩:=XU l.hok hd;obtain⟨o,k,p,c,hex,t,r⟩:=id dd;refine⟨"dict","dict.items",plainAttrs_dict,PySem.F.slot_dict_items,PySem.F.type_dict_items,dd.typeIs,λb E=>by cases E;exact⟨o,c,hex.2.1⟩,Calls.callWith_builtin rfl (PySem.evalArgs_none ?_)⟩
 refine call_meetsIn PySem.F.slot_dict_items dd.typeIs PySem.F.entry_dict_items (PySem.F.args_dict_items_1 _) (meets_dict_items (jU X.prog X.w) d f) ⟨⟨vs,dd⟩,?_⟩;have A:Inv X pins σ (upd H1 d (.frz o (.dK us))) { s1 with heap:=s1.heap,toks:=s1.toks }:=l.write (x:=d) (e:=d) (o:=.frz o (.dK us)) (t':=s1.toks) (h':=s1.heap) (by rw[hd];exact True.intro) (.inl rfl) (λ_ _ _ q=>q) ⟨o,c⟩ ⟨c,z,f,vs,rel,dd⟩
 have j:Inv X pins σ (upd H1 d (.frz o (.dK us))) { s1 with heap:=s1.heap.push { cls:=.type "dict_items",data:=.fields #[.ref d] } }:=A.kept (t':=s1.toks) λb ob q=>aa _ q
 have D:(s1.heap.push { cls:=.type "dict_items",data:=.fields #[.ref d] }).DictAt (jU X.prog X.w) d vs p:=⟨o,k,aa _ c,hex,t,r⟩;refine wpAny_pyIter_items (s:={ s1 with heap:=s1.heap.push { cls:=.type "dict_items",data:=.fields #[.ref d] } }) ⟨_,ah _ rfl,rfl,rfl⟩ D ?_
 refine⟨_,[_],_,_,_,rfl,j.kept (t':=s1.toks) λb ob q=>aa _ q,Sg d _ o us p ⟨k,t⟩,⟨.none,.none,?_⟩,λb y=>?_,q o⟩
 ·rw[rel.length];exact ah _ rfl
 ·have E:=List.mem_singleton.mp y
  subst E;exact j.fpOk (ak _) (j.hok.fresh (ak _))
noncomputable def kW:Key->W
 |.inl i=>.int i|.inr x=>.str x
def Y1 (kvs:List (Key×W)):qM:=⟨λ_ i=>some (kvs[i]?.map λp=>.tup [kW p.1,p.2]),kvs.length⟩
def Yx (m:Ev):Ei:=λρ A=>match A with
 |[]=>(m ρ []).bind λw A1=>match w,A1 with
  |.ref 0,[.dct kvs]=>if qI (kvs.map (·.2)) then .ok (Y1 kvs) [] else .bad|_,_=>.bad
 |_=>.bad
def ID {K:Frag}{d:Addr}{o:Obj}{us:List (Key×V)}{kvs:List (Key×W)}(hd:H d=some (.frz o (.dK us)))(f:us.map (·.1)=kvs.map (·.1))(A:zo K φ H (kvs.map (·.2)) (us.map (·.2)))(n:qI (kvs.map (·.2))=true):
  kz K φ H (Y1 kvs) (Ke d o us):=λi a g I lw S=>by
 unfold Y1;dsimp only;have h:=lw.fz d o _ hd;have E:zo K a g (kvs.map (·.2)) (us.map (·.2)):=A.nrm lw.tp lw.fz n;have l:us.length=kvs.length:=by have:=congrArg List.length f;simpa using this
 cases e:kvs[i]? with
 |none=>
  refine⟨λ_ z=>(by cases z),λ_=>⟨h,?_⟩⟩
  rw[List.getElem?_eq_none_iff]at e ⊢;rw[l];exact e
 |some p=>
  have r:i<kvs.length:=(bx.mp e).1;refine⟨λu z=>?_,λz=>(by cases z)⟩
  cases z;refine⟨⟨h,by rw[l];exact r⟩,λx H1 ⟨t,q,b,j,ex,y⟩=>?_⟩
  subst ex y;have k1:q.1=p.1:=by
   have a1:(us.map (·.1))[i]? =some q.1:=by simp[b]
   rw[f]at a1;simp[e]at a1;exact a1.symm
  have a2:(kvs.map (·.2))[i]? =some p.2:=by simp[e]
  obtain⟨v,c,w⟩:=E.get a2;have s:v=q.2:=by simp[b]at c;exact c.symm
  subst s;rw[k1];have k:RV K a g (kW p.1) (kV p.1):=by cases p.1<;>rfl
  obtain⟨D,C,B⟩:=gu S j (.cons k (.one w));exact⟨D,C,B⟩
end
mutual
noncomputable def W.beq:W->W->Bool
 |.non,.non=>true|.bl a,.bl b=>a==b|.int a,.int b=>decide (a=b)|.str a,.str b=>decide (a=b)|.tup a,.tup b=>ZE a b|_,_=>false
noncomputable def ZE:List W->List W->Bool
 |[],[]=>true|a::as,b::bs=>a.beq b&&ZE as bs|_,_=>false
end
mutual
theorem W.eq_of:∀{a b:W},a.beq b=true->a=b
 |.non,.non,_=>rfl|.bl a,.bl b,h=>by have h':(a==b)=true:=h;rw[au]at h';rw[h']|.int a,.int b,h=>by have h':decide (a=b)=true:=h;rw[ay]at h';rw[h']|.str a,.str b,h=>by have h':decide (a=b)=true:=h;rw[ay]at h';rw[h']|.tup a,.tup b,h=>by have h':ZE a b=true:=h;rw[Xm h']|.non,.bl _,h=>nomatch h|.non,.int _,h=>nomatch h|.non,.str _,h=>nomatch h|.non,.tup _,h=>nomatch h|.non,.ref _,h=>nomatch h
 |.bl _,.non,h=>nomatch h|.bl _,.int _,h=>nomatch h|.bl _,.str _,h=>nomatch h|.bl _,.tup _,h=>nomatch h|.bl _,.ref _,h=>nomatch h
 |.int _,.non,h=>nomatch h|.int _,.bl _,h=>nomatch h|.int _,.str _,h=>nomatch h|.int _,.tup _,h=>nomatch h|.int _,.ref _,h=>nomatch h
 |.str _,.non,h=>nomatch h|.str _,.bl _,h=>nomatch h|.str _,.int _,h=>nomatch h|.str _,.tup _,h=>nomatch h|.str _,.ref _,h=>nomatch h
 |.tup _,.non,h=>nomatch h|.tup _,.bl _,h=>nomatch h|.tup _,.int _,h=>nomatch h|.tup _,.str _,h=>nomatch h|.tup _,.ref _,h=>nomatch h
 |.ref _,.non,h=>nomatch h|.ref _,.bl _,h=>nomatch h|.ref _,.int _,h=>nomatch h|.ref _,.str _,h=>nomatch h|.ref _,.tup _,h=>nomatch h|.ref _,.ref _,h=>nomatch h
theorem Xm:∀{a b:List W},ZE a b=true->a=b
 |[],[],_=>rfl|a::as,b::bs,h=>by
  have h':(a.beq b&&ZE as bs)=true:=h;rw[aq]at h';rw[W.eq_of h'.1,Xm h'.2]
 |[],_::_,h=>nomatch h
 |_::_,[],h=>nomatch h
end
section
variable {K:Frag}
def FD (K:Frag)(x:Str)(st:Stmt):Prop:=∃f fd,jj K x x st f fd/\nsIn K mainGlobals x=some (some (.ref f))
def LP {st:Stmt}{b:Value}{o an:bq}{kV doc pm C ct:Value}(a:nsIn K mainGlobals x=some (some (.ref f)))
  (l:K.lookup f=some ⟨b,o,.func (fnOf x x (kf st) (jx st) (zH st) .none kV doc pm an C ct),osl⟩)(c:codeIn K C x=true)(k:keepIn K (.ref f)=true):FD K x st:=⟨f,_,XB l c k,a⟩
def CD (K:Frag)(x:Str)(i:Int):Prop:=∃t,nsIn K mainGlobals x=some (some (.int i t))
def IJ {i:Int}{t:Tok}(a:nsIn K mainGlobals x=some (some (.int i t))):CD K x i:=⟨t,a⟩
end
open PySem PySem.Spec PyProof.Rows L2 Mi
@[irreducible] noncomputable def zj (X:Cx)(x:XR)(e:Expr)(m:Ev):Prop:=Mi.SE X x e m
def Qr:@zj=@Mi.SE:=by
 funext X xr e m
 unfold zj
 rfl
@[irreducible] noncomputable def jD (X:Cx)(x:XR)(e:bf)(m:Ea):Prop:=Mi.SA X x e m
def Yv:@jD=@Mi.SA:=by
 funext X xr es m
 unfold jD
 rfl
@[irreducible] noncomputable def qX (X:Cx)(x:XR)(e:Expr)(m:Ev):Prop:=Mi.ST X x e m
def Yo:@qX=@Mi.ST:=by
 funext X xr e m
 unfold qX
 rfl
@[irreducible] noncomputable def yq (X:Cx)(x:XR)(e:Expr)(m:Ev):Prop:=Mi.SW X x e m
def YC:@yq=@Mi.SW:=by
 funext X xr e m
 unfold yq
 rfl
@[irreducible] noncomputable def jf (X:Cx)(x:XR)(st:Stmt)(m:Ex):Prop:=Mi.SS X x st m
def Yq:@jf=@Mi.SS:=by
 funext X xr st m
 unfold jf
 rfl
@[irreducible] noncomputable def jt (X:Cx)(x:XR)(st:br)(m:Ex):Prop:=Mi.gN X x st m
def Yk:@jt=@Mi.gN:=by
 funext X xr st m
 unfold jt
 rfl
@[irreducible] noncomputable def jF (X:Cx)(x:XR)(t e:Expr)(m:Ei):Prop:=Mi.SI X x t e m
def Yp:@jF=@Mi.SI:=by
 funext X xr tg e m
 unfold jF
 rfl
@[irreducible] noncomputable def jZ (X:Cx)(t:Expr)(m:Tg):Prop:=Mi.SG X t m
def YH:@jZ=@Mi.SG:=by
 funext X tg m
 unfold jZ
 rfl
@[irreducible] noncomputable def kA (X:Cx)(x:XR)(e:Expr)(m:qJ):Prop:=Mi.SF X x e m
def YJ:@kA=@Mi.SF:=by
 funext X xr e m
 unfold kA
 rfl
@[irreducible] noncomputable def yG (X:Cx)(x:XR)(e:Expr)(m:qJ):Prop:=Mi.SQ X x e m
def YE:@yG=@Mi.SQ:=by
 funext X xr e m
 unfold yG
 rfl
@[irreducible] noncomputable def yF (X:Cx)(e:bf)(m:Ev):Prop:=Mi.ZM X e m
def Yd:@yF=@Mi.ZM:=by
 funext X es m
 unfold yF
 rfl
@[irreducible] noncomputable def ym (X:Cx)(elt:Expr)(gens:List Comprehension)(sc:Scope)(c:Pos)(d:Nat)(em:Em):Prop:=Mi.SM X elt gens sc c d em
def Ys:@ym=@Mi.SM:=by
 funext X elt gens sc cpos d em
 unfold ym
 rfl
section
variable {xr:XR}{K:Frag}{a b c:Expr}{m ma mb mc:Ev}{m1 m2:Ex}{st:Stmt}{rest:br}
def zG:@zj=@Mi.SE/\@jD=@Mi.SA/\@qX=@Mi.ST/\@yq=@Mi.SW/\@jf=@Mi.SS/\@jt=@Mi.gN/\@jF=@Mi.SI/\@jZ=@Mi.SG/\@kA=@Mi.SF/\@yG=@Mi.SQ/\@yF=@Mi.ZM/\@ym=@Mi.SM:=⟨Qr,Yv,Yo,YC,Yq,Yk,Yp,YH,YJ,YE,Yd,Ys⟩
def zi {M:Ea}(a:zj X xr e ma)(H:jD X xr es M)(h:starEach (e::es) X.env=(false,eval e X.env)::starEach es X.env:=by rfl):jD X xr (e::es) (zh ma M):=by
 try simp only[zG]at*
 exact Mi.G8 a H h
def zE:jD X xr [] zt:=by
 try simp only[zG]at*
 exact Mi.XA
def jT (H:zj X xr a ma)(h:zj X xr b mb):zj X xr (.BinOp a .Add b pos) (zA qz ma mb):=by
 try simp only[zG]at*
 exact YI (M1.or (NC.or (PU.or Ly))) NZ Nz H h
def Qp {q:qJ}(H:X.calm=true)(hm:X.mg "all"=none)(a:yG X xr e q)(h:Gl X "all":=by rfl)(he:starEach [e] X.env=(false,eval e X.env)::starEach [] X.env:=by rfl):
  zj X xr (.Call (.Name "all" p) [e] [] pos) (mQ Zu q):=by
 try simp only[zG]at*
 exact YR (PZ H) Lh NG hm (by rfl) a h (by decide) (by decide) he (by rfl)
def gk {rest:bf}(f:zj X xr a ma)(e:zj X xr (.BoolOp .And (b::rest) pos) mb):zj X xr (.BoolOp .And (a::b::rest) pos) (jK ma mb):=by
 try simp only[zG]at*
 exact PE.imp (MU f e) λσ H Q ⟨φ,A,ρ,S,re,h⟩=>by
   refine tM.go S re (zC.mp h) λw A1 d H1 v c l1 s q=>?_;cases w with
   |bl k=>
    refine⟨k,q,?_⟩;cases k with
    |true=>rw[af rfl];exact⟨d,A1,ρ,s,re.mono l1,zJ c (λ_ _ z=>z.mono l1) λ_ _ z=>z.mono l1⟩|false=>rw[ag ao];exact c d H1 _ l1 s rfl
   |non=>cases c|int _=>cases c|str _=>cases c|tup _=>cases c|ref _=>cases c|clo _ _ _=>cases c|xc _=>cases c|fn _=>cases c
def kK {i j}:zj X xr (.Constant (.bool i) j pos) (zq (.bl i)):=by
 try simp only[zG]at*
 exact PE.imp LS λσ H Q ⟨φ,A,ρ,S,r,h⟩=>h φ H _ .refl S rfl
def Zo {g:W->W->Hx->R W}(h:j8 X op g)(c:zj X xr a ma)(H:zj X xr b mb)(e:op≠.In:=by decide)(d:op≠.NotIn:=by decide):zj X xr (.Compare a [op] [b] pos) (zA g ma mb):=by
 try simp only[zG]at*
 exact let ⟨r,a1,a2,A⟩:=h.ex;Xe a1 a2 A c H (h.mks b e d)
def Xr {o:CmpOp}{g g':W->W->Hx->R W}(h:j8 X op g)(h':j8 X o g')(e:zj X xr a ma)(d:zj X xr b mb)(H:zj X xr c mc)(hm:lastMarks [op,o] [b,c]=false:=by with_unfolding_all rfl):
  zj X xr (.Compare a [op,o] [b,c] pos) (yx g g' ma mb mc):=by
 try simp only[zG]at*
 exact let ⟨r,a1,a2,A⟩:=h.ex;let ⟨j,i,f,B⟩:=h'.ex;PV a1 a2 A i f B e d H hm
def qL {f:Fn}{M:Ea}(F:zL X.prog X.w X.K X.mg X.base k x n f)(r:zW k X.A)(o:jD X qx (e::es) M)(d:jV M n:=by repeat' (first|exact zN|refine zp ?_))(i:Gl X x:=by rfl)
  (c:(x==("__debug__":Str))=false:=by decide)(he:starEach (e::es) X.env=(false,eval e X.env)::starEach es X.env:=by rfl)(l:(backTo pos (starEach es X.env)).any (·.1)=false:=by rfl):
  zj X qx (.Call (.Name x p) (e::es) [] pos) (z0 f M):=by
 try simp only[zG]at*
 obtain⟨y,fd,P,F,hm,g,j⟩:=F;refine PE.imp (G2 F r i hm g j .nil YY o c he l) λσ H Q ⟨φ,A,ρ,S,re,h⟩=>?_;have h':=zC.mp h;refine⟨φ,A,ρ,S,re,?_⟩;cases E:M ρ A with
 |ok ws A1=>
  rw[E]at h';intro b H1 vs l1 t q;have v:vs.length=n:=by rw[<- q.length];exact d ρ A ws A1 E
  rw[aT];exact⟨v,b,A1,ws,t,q,zJ h' (λ_ _ z=>z.mono l1) λx B z a u l2 s=>(z a u (l1.trans l2) s).elim⟩
 |exc x A1=>rw[E]at h';exact h'|bad=>rw[E]at h';exact h'
def Lp {g:W->W->Hx->R W}(h:QQ X op g)(c:zj X xr a ma)(H:zj X xr b mb)(hm:behindInMarks op b=false:=by rfl):zj X xr (.Compare a [op] [b] pos) (zA g ma mb):=by
 try simp only[zG]at*
 exact let ⟨r,a1,a2,A⟩:=h.ex;Xe a1 a2 A c H hm
def GY:zj X xr (.Dict [] [] pos) Y9:=by
 try simp only[zG]at*
 exact PE.imp PL λσ H Q ⟨φ,A,ρ,S,re,h⟩ p a=>by
  obtain⟨l,s⟩:=S.alloc (o:=.dct []) a (u:=.dK []) ⟨[],ql,rfl,.nil⟩;exact h _ _ _ l s ⟨p,rfl,by rw[<- S.len];simp⟩
def P1 {i:Int}{t:Tok}(g:Gl X x)(hm:X.mg x=some (.int i t))(hd:(x==("__debug__":Str))=false:=by decide):zj X xr (.Name x pos) (zq (.int i)):=by
 try simp only[zG]at*
 exact PE.imp (gn g hm (v:=.int i) ⟨t,rfl⟩ hd) λσ H Q ⟨φ,A,ρ,S,r,h⟩=>h φ H _ .refl S rfl
def YD {c:Expr}(f:qX X xr c mc)(i:zj X xr a ma)(g:zj X xr b mb):zj X xr (.IfExp c a b pos) (Q5 mc ma mb):=by
 try simp only[zG]at*
 exact PE.imp (P8 f i g) λσ H Q ⟨φ,A,ρ,S,re,h⟩=>by
   refine tT.go S re (zC.mp h) λw A1 d=>?_;cases w with
   |bl k=>
    refine⟨k,rfl,λe H1 l1 s=>?_⟩;cases k with
    |true=>rw[af rfl];exact⟨e,A1,ρ,s,re.mono l1,zJ d (λ_ _ z=>z.mono l1) λ_ _ z=>z.mono l1⟩|false=>rw[ag ao];exact⟨e,A1,ρ,s,re.mono l1,zJ d (λ_ _ z=>z.mono l1) λ_ _ z=>z.mono l1⟩
   |non=>cases d|int _=>cases d|str _=>cases d|tup _=>cases d|ref _=>cases d|clo _ _ _=>cases d|xc _=>cases d|fn _=>cases d
def qC {i j}:zj X xr (.Constant (.int i) j pos) (zq (.int i)):=by
 try simp only[zG]at*
 exact PE.imp Lx λσ H Q ⟨φ,A,ρ,S,r,h⟩=>h φ H _ .refl S rfl
def wq (t:Ty){P:Pos}(hm:X.mg "isinstance"=none)(c:X.mg x=none)(f:bootBuiltins x=some (.type t.nm))(i:zj X xr e m)(g:Gl X "isinstance":=by rfl)(d:Gl X x:=by rfl)
  (hn:x ≠ "__name__":=by decide)(hd:(x==("__debug__":Str))=false:=by decide)
  (a:starEach [e,.Name x P] X.env=(false,eval e X.env)::starEach [.Name x P] X.env:=by rfl)(j:(backTo pos (starEach [.Name x P] X.env)).any (·.1)=false:=by rfl):
  zj X xr (.Call (.Name "isinstance" p) [e,.Name x P] [] pos) (jY t m):=by
 try simp only[zG]at*
 exact PE.imp (g9 OG g hm (by rfl) (qy i (qy (Xa d c f (v:=.ty t.nm) rfl hn hd) qT) a) (by decide) (by decide) a j) λσ H Q ⟨φ,A,ρ,S,re,h⟩=>by
   refine tM.go S re (zC.mp h) λw A1 b H1 v a l1 s q=>?_;cases E:wU w A1 with
   |none=>rw[E]at a;exact a.elim|some t'=>
    rw[E]at a;exact⟨v,t',t,rfl,Pg s q E,a b H1 _ l1 s rfl⟩
def yw (c:zj X xr a ma)(H:zj X xr b mb)(h:Xb b:=by intro _ _;rfl):zj X xr (.Subscript a b pos) (zA qW ma mb):=by
 try simp only[zG]at*
 exact PE.imp (II M8 c H h) (zA.read L8 Li)
def wm {q:qJ}(hm:X.mg "len"=none)(H:yG X xr e q)(h:Gl X "len":=by rfl)(he:starEach [e] X.env=(false,eval e X.env)::starEach [] X.env:=by rfl):
  zj X xr (.Call (.Name "len" p) [e] [] pos) (mQ yz q):=by
 try simp only[zG]at*
 exact YR Tn (λ_ _=>qr) OH hm (by rfl) H h (by decide) (by decide) he (by rfl)
def gh {q:qJ}(h:kA X xr e q):zj X xr e (jy q):=by
 try simp only[zG]at*
 exact PE.imp h jy.read
def Sb {P pos':Pos}(t:X.calm=true)(hm:X.mg "list"=none)(f:X.mg "range"=none)(u:zj X xr a ma)(o:Gl X "list":=by rfl)(g:Gl X "range":=by rfl)(s:starEach [a] X.env=[(false,eval a X.env)]:=by rfl)
  (d:starEach [.Call (.Name "range" P) [a] [] pos'] X.env=(false,eval (.Call (.Name "range" P) [a] [] pos') X.env)::starEach [] X.env:=by rfl):
  zj X xr (.Call (.Name "list" p) [.Call (.Name "range" P) [a] [] pos'] [] pos) (G1 ma):=by
 try simp only[zG]at*
 exact PE.imp (JS (Sw t) o hm (by rfl) (qy (Ox g f (qy u qT (by rw[s];rfl)) s) qT d) (by decide) (by decide) d (by rfl)) λσ H Q ⟨φ,A,ρ,S,re,h⟩=>by
   refine tM.go S re (zC.mp h) λw A1 b H1 v c l1 z q=>?_;cases w with
   |int j=>
    obtain rfl:=q;dsimp only at c
    by_cases e:(kI j&&decide (j.toNat<=qm))=true
    ·rw[af e]at c
     rw[aq,ay]at e;refine⟨j,rfl,λp k=>⟨p,j,rfl,ql,JI e.1,gc e.2,λl n=>?_⟩⟩;have ln:Le X.K b H1 b (upd H1 p (.rng 0 j)):=Le.new k;have r:zo X.K b (upd H1 p (.rng 0 j)) ((List.range j.toNat).map λ(i:Nat)=>W.int i) (wN j.toNat):=by
      have:=(zo.ints (K:=X.K) (φ:=b) (H:=upd H1 p (.rng 0 j)) (ns:=(List.range j.toNat).map λ(i:Nat)=>(i:Int)) (vs:=wN j.toNat)).mpr (by unfold wN;simp)
      rw[List.map_map]at this;exact this
     obtain⟨y,x,B⟩:=wt (z.lay k) n r;exact c _ _ _ ((l1.trans ln).trans y) x B
    ·rw[ag e]at c;exact c.elim
   |_=>exact c.elim
def qP {M:Ea}(h:jD X xr es M)(H:jV M n)(hn:n<=qm:=by decide):zj X xr (.List es pos) (qe M):=by
 try simp only[zG]at*
 exact Lw h λρ A ws a e=>by rw[H ρ A ws a e];exact gc hn
def J0 {q:qJ}(H:X.calm=true)(hm:X.mg "max"=none)(a:yG X xr e q)(h:Gl X "max":=by rfl)(he:starEach [e] X.env=(false,eval e X.env)::starEach [] X.env:=by rfl):
  zj X xr (.Call (.Name "max" p) [e] [] pos) (mQ kX q):=by
 try simp only[zG]at*
 exact YR (Ru H) Lj Nt hm (by rfl) a h (by decide) (by decide) he (by rfl)
def Yb (H:zj X xr a ma)(h:zj X xr b mb):zj X xr (.BinOp a .Mod b pos) (zA kj ma mb):=by
 try simp only[zG]at*
 exact YI Mg L9 (NW O5 λ_ _ _ _=>rfl) H h
def OB (H:zj X xr a ma)(h:zj X xr b mb):zj X xr (.BinOp a .Mult b pos) (zA wR ma mb):=by
 try simp only[zG]at*
 exact YI (NO.or Mc) Ms NA H h
def J8 (h:zj X xr a ma):zj X xr (.UnaryOp .USub a pos) (qN ZH ma):=by
 try simp only[zG]at*
 exact Iu My (λx A=>by unfold ZH;split;exact qr;exact zT) (λφ A H x u Q S q p=>by
  cases u with
  |int i=>obtain rfl:=q;exact⟨i,rfl,p φ H _ .refl S rfl⟩|_=>exact p.elim) h
def gj {j}:zj X xr (.Constant .none j pos) (zq .non):=by
 try simp only[zG]at*
 exact PE.imp Mp λσ H Q ⟨φ,A,ρ,S,r,h⟩=>h φ H _ .refl S rfl
def O3 (d:zj X xr a ma):zj X xr (.UnaryOp .Not a pos) (jM ma):=by
 try simp only[zG]at*
 exact PE.imp (Mh d) λσ H Q ⟨φ,A,ρ,S,re,h⟩=>by
   refine tM.go S re (zC.mp h) λw A1 c H1 v b l1 s q=>?_;cases w with
   |bl k=>exact⟨k,q,b c H1 _ l1 s rfl⟩|non=>cases b|int _=>cases b|str _=>cases b|tup _=>cases b|ref _=>cases b|clo _ _ _=>cases b|xc _=>cases b|fn _=>cases b
def Zc {op}(h:zj X xr a ma):zj X xr (.BoolOp op [a] pos) ma:=by
 try simp only[zG]at*
 exact MR h
def Su (ho:zj X xr a ma)(he:zj X xr b mb)(hf:zj X xr c mc)(k:starEach [b,c] X.env=(false,eval b X.env)::starEach [c] X.env:=by rfl)(M:starEach [c] X.env=(false,eval c X.env)::starEach [] X.env:=by rfl)
  (j:attributeBase a "setdefault" X.env (eval a X.env)=eval a X.env:=by rfl)
  (r:((backTo cpos (starEach [b,c] X.env)).all (λx=>!x.1)&&(backToKw cpos (keywordEach [] X.env)).all (λx=>x.1.isSome)
   && decide ([b,c].length+([]:bp).length+(if ([]:bp).isEmpty then 0 else 1)<30))=true:=by rfl)(g:(apos.endLine==cpos.line)=true:=by rfl)(J:(backTo cpos (starEach [c] X.env)).any (·.1)=false:=by rfl):
  zj X xr (.Call (.Attribute a "setdefault" apos) [b,c] [] cpos) (Xg Ye ma mb mc):=by
 try simp only[zG]at*
 exact PE.imp (XZ plainAttrs_dict PySem.F.slot_dict_setdefault PySem.F.type_dict_setdefault Rq ho (qy he (qy hf qT M) k) j r g k J) λσ H Q ⟨φ,A,ρ,S,re,h⟩=>by
   refine tM.go S re (zC.mp h) λw A1 φ1 H1 v k l1 S1 Z=>?_
   by_cases hd:Jh w A1=true
   ·rw[af hd]at k
    refine⟨Ov S1 Z hd,?_⟩;refine tM.go S1 (re.mono l1) (zJ (zC.mp k) (λ_ _ z=>z) λ_ _ z=>z.mono l1) λt A2 φ2 H2 v2 M l2 S2 q2=>?_;have l:=l1.trans l2;refine tM.go S2 (re.mono l) (zJ (zC.mp M) (λ_ _ z=>z) λ_ _ z=>z.mono l) λw3 A3 f P q d l3 N Y=>?_;have L:=l.trans l3;unfold Ye at d;cases w with
    |ref n=>cases t with
     |int i=>
      obtain rfl:=q2;dsimp only[Vm]at d;cases s:A3[n]? with
      |none=>rw[s]at d;exact d.elim|some o=>cases o with
       |dct kvs=>
        rw[s]at d;dsimp only at d;obtain⟨p,us,rfl,f1,g1,g2,g3⟩:=N.dct ((Z.mono l2).mono l3) s;have hlen:us.length=kvs.length:=by have:=congrArg List.length g2;simpa using this
        by_cases D:kvs.length<qm
        ·rw[af D]at d
         have C:=W2 (.inl i) g2 g3;refine⟨p,us,.inl i,q,rfl,rfl,g1,?_,λv' I=>?_,λhn=>?_⟩
         ·rw[hlen]
          have:sizeLine=16777216:=sizeLine_eq
          unfold qm at D;omega
         ·cases E:kq (.inl i) kvs with
          |none=>rw[C.2 E]at I;cases I|some y=>
           rw[E]at d;obtain⟨B,e,U⟩:=C.1 y E;rw[I]at e;cases e;exact d f P _ L N U
         ·cases E:kq (.inl i) kvs with
          |some y=>obtain⟨B,e,U⟩:=C.1 y E;rw[hn]at e;cases e|none=>
           rw[E]at d;dsimp only at d;rw[Pz q hn];have ln:Le X.K f P f (upd P p (.dK (us++[(.inl i,q)]))):=Le.upd f1 (λxs z=>by rw[g1]at z;cases z) (λ_ _ z=>by rw[g1]at z;cases z)
           obtain⟨T,t⟩:=N.write (o:=.dct kvs) (o':=.dct (kvs++[(.inl i,w3)])) s rfl rfl f1 (u:=.dK (us++[(.inl i,q)])) ⟨us++[(.inl i,q)],ql,by simp[g2],by
            rw[map_append,map_append];exact(g3.mono ln).append (.one (Y.mono ln))⟩
           exact d _ _ _ (L.trans T) t (Y.mono T)
        ·rw[ag D]at d;exact d.elim
       |_=>rw[s]at d;exact d.elim
     |_=>exact d.elim
    |_=>exact d.elim
   ·rw[ag hd]at k;exact k.elim
def gi {x1}{M:Ea}(h:jD X xr es M)(l:jV M n)(hn:n<=qm:=by decide):zj X xr (.Tuple es x1 pos) (wM M):=by
 try simp only[zG]at*
 exact PE.imp (La h) λσ H Q ⟨φ,A,ρ,S,re,h⟩=>by
   have h':=zC.mp h;cases e:M ρ A with
   |ok ws a=>
    rw[e]at h';refine⟨φ,A,ρ,S,re,?_⟩;rw[e];intro b H1 vs l1 s q;refine⟨by rw[<- q.length,l ρ A ws a e];exact gc hn,λp c=>?_⟩
    obtain⟨a1,a2,d⟩:=gu s c q;exact h' _ _ _ (l1.trans a1) a2 d
   |exc x a=>rw[e]at h';refine⟨φ,A,ρ,S,re,?_⟩;rw[e];exact h'|bad=>rw[e]at h';exact h'.elim
def wd {q:qJ}(hm:X.mg "tuple"=none)(H:yG X xr e q)(h:Gl X "tuple":=by rfl)(he:starEach [e] X.env=(false,eval e X.env)::starEach [] X.env:=by rfl):
  zj X xr (.Call (.Name "tuple" p) [e] [] pos) (mQ yD q):=by
 try simp only[zG]at*
 exact IC Uz (λ_ _=>qr) Na hm (by rfl) H h (by decide) (by decide) he (by rfl)
def zc (i:Nat)(b:X.N[i]? =some x:=by rfl)(a:gL X.env.scope x:=by first|exact Or.inl rfl|exact Or.inr (Or.inl rfl)|exact Or.inr (Or.inr rfl))(hd:(x==("__debug__":Str))=false:=by decide)
  (d:(x==("__classdict__":Str))=false:=by decide):zj X xr (.Name x pos) (jX i):=by
 try simp only[zG]at*
 exact PE.imp (Xt b a hd d) λσ H Q ⟨φ,A,ρ,S,r,h⟩=>by
  unfold jX at h;cases e:ρ[i]? with
  |none=>rw[e]at h;cases h|some o=>cases o with
   |none=>rw[e]at h;cases h|some w=>
    rw[e]at h;obtain⟨v,f,c⟩:=r.get i w e;exact⟨v,f,h φ H v .refl S c⟩
def Ot {iter:Expr}{mi:Ei}{t:Tg}{M:Ev}{em:Em}(nl:Nat)(cap:ba)(c:X.calm=true)(S:yL X sc)(p:kP X.N N sc nl cap=true)(hw:jF X xr tg iter mi)
  (n:∀s H fp,jZ (qt X N sc s H fp q9) tg t/\yF (qt X N sc s H fp q9) ifs M/\ym (qt X N sc s H fp q9) elt (⟨tg,iter,ifs,0⟩::gs) sc pos 0 em)
  (b:∀g',gs[0]? =some g'->g'.is_async=0:=by intro _ h;cases h<;>rfl)
  (a:∀x,foldedSetIterable iter X.env x=pure x:=by intro _;rfl):kA X xr (.ListComp elt (⟨tg,iter,ifs,0⟩::gs) sc pos) (qg nl cap mi t M em):=by
 try simp only[zG]at*
 exact PE.imp (Oz (g:=tG X.K t) (ti:=tT X.K qx M) (tm:=tE X.K em) c S p b hw n a) qg.read
def yu (i j:Nat){y:Str}{q:Pos}(o:X.calm=true)(h:X.N.Nodup)(l:X.N[i]? =some x:=by rfl)(f:Loc X.env.scope x:=by first|exact Or.inl rfl|exact Or.inr rfl)(hf:X.fn x=true∨X.env.scope.names.lookup x=some .local:=by first|exact .inl rfl|exact .inr rfl)
  (g:X.N[j]? =some y:=by rfl)(d:Loc X.env.scope y:=by first|exact Or.inl rfl|exact Or.inr rfl)(n:X.fn y=true∨X.env.scope.names.lookup y=some .local:=by first|exact .inl rfl|exact .inr rfl):jZ X (.Tuple [.Name x p,.Name y q] k pos) (j7 i j):=by
 try simp only[zG]at*
 exact PG.imp (Yy o (kH (kJ h l f hf) (kH (kJ h g d n) Ql))) λv σ H Q ⟨φ,A,ρ,w,b,S,re,c,e,kk⟩=>by
   unfold j7 at e
   split at e
   ·rename_i u Y
    have E:=aj e;subst E;obtain⟨a,vs,rfl,s,rs⟩:=c;obtain⟨v1,B,rfl,t,v2,z,rfl,r,rfl⟩:=rs;exact⟨a,[v1,v2],rfl,s,rfl,v1,[v2],rfl,v2,[],rfl,rfl,kk _ ((re.set t).set r)⟩
   ·cases e
def Rn (i j k:Nat){y z:Str}{q r pp:Pos}{s:Nat}(f:X.calm=true)(c:X.N.Nodup)(I:X.N[i]? =some x:=by rfl)(B:Loc X.env.scope x:=by first|exact Or.inl rfl|exact Or.inr rfl)(hf:X.fn x=true∨X.env.scope.names.lookup x=some .local:=by first|exact .inl rfl|exact .inr rfl)
  (E:X.N[j]? =some y:=by rfl)(u:Loc X.env.scope y:=by first|exact Or.inl rfl|exact Or.inr rfl)(K:X.fn y=true∨X.env.scope.names.lookup y=some .local:=by first|exact .inl rfl|exact .inr rfl)
  (D:X.N[k]? =some z:=by rfl)(t:Loc X.env.scope z:=by first|exact Or.inl rfl|exact Or.inr rfl)(J:X.fn z=true∨X.env.scope.names.lookup z=some .local:=by first|exact .inl rfl|exact .inr rfl):
  jZ X (.Tuple [.Name x p,.Tuple [.Name y q,.Name z r] s pp] n pos) (YB i j k):=by
 try simp only[zG]at*
 exact PG.imp (Yy f (kH (kJ c I B hf) (kH (Yy f (kH (kJ c E u K) (kH (kJ c D t J) Ql))) Ql))) λv σ H Q ⟨φ,A,ρ,w,g,S,re,o,e,kk⟩=>by
   unfold YB at e
   split at e
   ·rename_i x1 Y Z
    have U:=aj e;subst U;obtain⟨a,vs,rfl,C,rs⟩:=o;obtain⟨v1,r1,rfl,T,v2,r2,rfl,P,rfl⟩:=rs;obtain⟨a2,l,rfl,h,b⟩:=P;obtain⟨d,r3,rfl,M,v4,r4,rfl,L,rfl⟩:=b;exact⟨a,[v1,.ref a2],rfl,C,rfl,v1,[.ref a2],rfl,.ref a2,[],rfl,a2,[d,v4],rfl,h,rfl,d,[v4],rfl,v4,[],rfl,rfl,rfl,kk _ (((re.set T).set M).set L)⟩
   ·cases e
def qQ (i:Nat)(c:X.N.Nodup)(b:X.N[i]? =some x:=by rfl)(h:Loc X.env.scope x:=by first|exact Or.inl rfl|exact Or.inr rfl)(hf:X.fn x=true∨X.env.scope.names.lookup x=some .local:=by first|exact .inl rfl|exact .inr rfl):jZ X (.Name x pos) (qb i):=by
 try simp only[zG]at*
 exact PG.imp (kJ c b h hf) λv σ H Q ⟨φ,A,ρ,w,a,S,re,q,e,k⟩=>by
   have E:ρ.set i (some w)=a:=aj e;subst E;exact k _ (re.set q)
def jo (h:zj X xr e m):jF X xr tg e (qw m):=by
 try simp only[zG]at*
 exact PI.imp (MJ h) λσ H Z ⟨φ,A,ρ,S,re,h⟩=>by
  refine tM.go S re (zC.mp h) λw A1 g H1 v d l1 N Q=>?_;unfold Y7 at d;cases e:zM w A1 with
  |none=>rw[e]at d;exact d.elim|some ws=>
   rw[e]at d;dsimp only at d;cases w with
   |tup us=>
    obtain⟨a,ys,rfl,j,q⟩:=Q;refine⟨a,rfl,.inr ⟨⟨ys,j⟩,d g H1 _ l1 N λi c k f lw s=>⟨λB b=>?_,λb=>?_⟩⟩⟩
    ·have E:us[i]? =some B:=aj b
     obtain⟨y,l,D⟩:=(q.monoW lw).get E;refine⟨⟨ys,y,lw.tp _ _ j,l⟩,λx U u=>?_⟩;obtain⟨M,L⟩:=u;subst M;have p:=L ys (lw.tp _ _ j);rw[l]at p;cases p;exact⟨.refl,s,D⟩
    ·have E:us[i]? =none:=aj b
     refine⟨ys,lw.tp _ _ j,?_⟩;rw[<- q.length];exact List.getElem?_eq_none_iff.mp E
   |ref n=>
    obtain⟨a,rfl,j⟩:=Q;have read:∀{c k f us},kD X.K g H1 c k->zu X.K c f k->zM (.ref n) f=some us->∃ys,z8 X.K k a ys/\zo X.K c k us ys:=λ {c k f us} lw s es=>by
     obtain⟨T,ys,P,z,r⟩:=Z3 (w:=.ref n) (v:=.ref a) s ⟨a,rfl,lw.ex _ _ j⟩ es;cases P;unfold zM at es;dsimp only at es;cases J:f[n]? with
     |none=>rw[J]at es;cases es|some o=>
      rw[J]at es;obtain⟨T,q,r⟩:=s.ob n o J;rw[lw.ex _ _ j]at q;cases q;cases o with
      |lst xs=>cases es;obtain⟨ys,d,I⟩:=r;exact⟨ys,z8.of d,I⟩|ro xs=>cases es;obtain⟨ys,d,I⟩:=r;exact⟨ys,d.sq,I⟩|dct xs=>cases es|td _=>cases es|tr _=>cases es|tab _ _=>cases es|ins _ _=>cases es
    obtain⟨Y,C,_⟩:=read ⟨λ_ _ h=>h,λ_ _ h=>h,λ_ _ _ h=>h⟩ N e;refine⟨a,rfl,.inl ⟨⟨Y,C⟩,d g H1 _ l1 N λi c k f lw s=>⟨λB b=>?_,λb=>?_⟩⟩⟩
    ·dsimp only at b
     cases es:zM (.ref n) f with
     |none=>rw[es]at b;cases b|some us=>
      rw[es]at b;have E:us[i]? =some B:=aj b;obtain⟨ys,t,r⟩:=read lw s es;obtain⟨y,l,D⟩:=r.get E;refine⟨⟨ys,y,t,l⟩,λx U u=>?_⟩;obtain⟨M,L⟩:=u;subst M;have p:=L ys t;rw[l]at p;cases p;exact⟨.refl,s,D⟩
    ·dsimp only at b
     cases es:zM (.ref n) f with
     |none=>rw[es]at b;cases b|some us=>
      rw[es]at b;have E:us[i]? =none:=aj b;obtain⟨ys,t,r⟩:=read lw s es;refine⟨ys,t,?_⟩;rw[<- r.length];exact List.getElem?_eq_none_iff.mp E
   |non=>cases e|bl _=>cases e|clo _ _ _=>cases e|xc _=>cases e|fn _=>cases e|int _=>cases e|str _=>cases e
def gf (g:Gl X "enumerate")(hm:X.mg "enumerate"=none)(e:zj X xr a ma)(s:starEach [a] X.env=[(false,eval a X.env)]:=by rfl):jF X xr (.Tuple elts kk tpos) (.Call (.Name "enumerate" p) [a] [] pos) (wB ma):=by
 try simp only[zG]at*
 exact PI.imp (O4 g hm (qy e qT (by rw[s];rfl)) s) λσ H r ⟨φ,A,ρ,S,re,h⟩=>by
   refine tM.go S re (zC.mp h) λw A1 c H1 v b l1 d q=>?_;cases es:zM w A1 with
   |none=>rw[es]at b;exact b.elim|some ws=>
    rw[es]at b;obtain⟨p,ys,rfl,z,Z⟩:=Qb d q es;exact⟨p,kO w,ys,rfl,z,b c H1 _ l1 d (IL q)⟩
def Ry (k:zj X xr a ma)(d:attributeBase a "items" X.env (eval a X.env)=eval a X.env:=by rfl)(e:(apos.endLine==cpos.line)=true:=by rfl):
  jF X xr (.Tuple elts kk tpos) (.Call (.Attribute a "items" apos) [] [] cpos) (Yx ma):=by
 try simp only[zG]at*
 exact PI.imp (Pn k d e) λσ H r ⟨φ,A,ρ,S,re,h⟩=>by
   unfold Yx at h;cases A with
   |cons o A=>exact h.elim|nil=>
    dsimp only at h;have i:φ=[]:=by have:=S.len;simpa using this
    subst i;refine tM.go S re (zC.mp h) λw A1 j H1 v f l1 s q=>?_
    split at f
    ·rename_i kvs
     by_cases hn:qI (kvs.map (·.2))=true
     ·rw[af hn]at f
      obtain⟨p,us,rfl,f1,g1,g2,g3⟩:=s.dct q (kvs:=kvs) rfl;have h0:H p=none:=by
       rcases l1.nw 0 p f1 with z|z
       ·simp at z
       ·exact z
      refine⟨p,us,rfl,g1,λo=>?_⟩;have tp:∀c vs,zP X.K H1 c vs->zP X.K (upd H1 p (.frz o (.dK us))) c vs:=λc vs t=>Qo t (λxs z=>by rw[g1]at z;cases z) (λ_ _ z=>by rw[g1]at z;cases z)
      have le:Le X.K [] H [] (upd H1 p (.frz o (.dK us))):=by
       refine⟨λn c z=>z,λc vs t=>tp c vs (l1.tp c vs t),λc u b nn=>?_,λn c z=>.inl z,λc z=>?_,λc u U b=>?_⟩
       ·rw[zF (jl b h0)];exact l1.fr c u b nn
       ·by_cases g:c=p
        ·rw[g];exact h0
        ·rw[zF g]at z;exact l1.st c z
       ·rw[zF (jl b h0)];exact l1.fz c u U b
      exact f [] _ _ le zu.none (ID (o:=o) ql g2 (g3.nrm tp (λc u U b=>by rw[zF (gA b g1 (by intro z;cases z))];exact b) hn) hn)
     ·rw[ag hn]at f;exact f.elim
    ·exact f.elim
def J4 (g:Gl X "range")(hm:X.mg "range"=none)(e:zj X xr a ma)(s:starEach [a] X.env=[(false,eval a X.env)]:=by rfl):jF X xr tg (.Call (.Name "range" p) [a] [] pos) (Zr ma):=by
 try simp only[zG]at*
 exact PI.imp (RT g hm (qy e qT (by rw[s];rfl)) s) λσ H r ⟨φ,A,ρ,S,re,h⟩=>by
   refine tM.go S re (zC.mp h) λw A1 c H1 v b l1 i q=>?_;cases w with
   |int j=>
    obtain rfl:=q;dsimp only at b
    by_cases d:kI j=true
    ·rw[af d]at b
     obtain⟨f,B⟩:=JI d;exact⟨j,rfl,f,B,b c H1 _ l1 i NI⟩
    ·rw[ag d]at b;exact b.elim
   |non=>exact b.elim|bl _=>exact b.elim|str _=>exact b.elim|tup _=>exact b.elim|ref _=>exact b.elim|clo _ _ _=>exact b.elim|xc _=>exact b.elim|fn _=>exact b.elim
def O6 (r:Gl X "zip")(hm:X.mg "zip"=none)(u:zj X xr a ma)(t:zj X xr b mb)(i:starEach [a,b] X.env=(false,eval a X.env)::starEach [b] X.env:=by rfl)(f:starEach [b] X.env=(false,eval b X.env)::starEach [] X.env:=by rfl)(o:(backTo pos (starEach [b] X.env)).any (·.1)=false:=by rfl):
  jF X xr (.Tuple elts kk tpos) (.Call (.Name "zip" p) [a,b] [] pos) (X8 ma mb):=by
 try simp only[zG]at*
 exact PI.imp (N4 r hm (qy u (qy t qT f) i) i o) λσ H E ⟨φ,A,ρ,S,re,h⟩=>by
   refine tM.go S re (zC.mp h) λw A1 k H1 v x l1 y n=>?_;refine tM.go y (re.mono l1) (zJ (zC.mp x) (λ_ _ z=>z) λ_ _ z=>z.mono l1) λg j d B v2 c l2 s Q=>?_;cases es:zM w j with
   |none=>rw[es]at c;exact c.elim|some us=>
    cases e:zM g j with
    |none=>rw[es,e]at c;exact c.elim|some vs=>
     rw[es,e]at c;have q:=n.mono l2;obtain⟨p,xs,rfl,l,D⟩:=Qb s q es;obtain⟨P,ys,rfl,Z,C⟩:=Qb s Q e;exact⟨p,P,kO w,kO g,xs,ys,rfl,l,Z,c d B _ (l1.trans l2) s (LI q Q)⟩
def O8 {d:Nat}{me:Ev}(x:∀e s,X.xe e s->False)(he:zj X qx elt me)(j:gens[d+1]? =none):ym X elt gens sc pos d (qo me):=by
 try simp only[zG]at*
 exact j3.imp (Pu x he j) λD σ H Q ⟨φ,A,ρ,acc,ys,S,re,k,N,r,h⟩=>by
   refine tM.go S re (JY (zC.mp h)) λw A1 g H1 v f l1 o q=>?_;obtain⟨c,n⟩:=l1.off k N
   by_cases z:acc.length<qm
   ·rw[af z]at f
    have l:=r.length;refine⟨ys,c,?_,?_⟩
    ·rw[<- l]
     have:sizeLine=16777216:=sizeLine_eq
     unfold qm at z;omega
    ·exact f g _ σ _ (l1.toD.trans (ja.upd c)) n (o.off c n) ⟨re.len,λi w e=>let ⟨v,a,b⟩:=re.get i w e;⟨v,a,(b.mono l1).monoD (ja.upd c)⟩⟩ ql
      (((r.mono l1).monoD (ja.upd c)).append (.one (q.monoD (ja.upd c))))
   ·rw[ag z]at f;exact f.elim
def OS {iter:Expr}{d:Nat}{mi:Ei}{T:Tg}{M:Ev}{em:Em}(l:∀e s,X.xe e s->False)(v:X.calm=true)(u:gens[d+1]? =some ⟨tg,iter,ifs,0⟩)(w:∀g',gens[d+2]? =some g'->g'.is_async=0)
  (hw:jF X qx tg iter mi)(t:jZ X tg T)(q:yF X ifs M)(hm:ym X elt gens sc pos (d+1) em)(o:∀x,foldedSetIterable iter X.env x=pure x:=by intro _;rfl):ym X elt gens sc pos d (XH mi T M em):=by
 try simp only[zG]at*
 exact j3.imp (Of l v u w hw t q hm o) λD σ H Q ⟨φ,A,ρ,acc,ys,S,re,y,n,f,h⟩=>by
   refine⟨φ,A,ρ,S,re,zJ (JY (zC.mp h)) (λj A1 C c H1 J l1 L k=>?_) λ_ _ z=>z⟩;obtain⟨I,i⟩:=l1.off y n;exact ju.read k L (re.mono l1) I i (f.mono l1) (zJ C (λp U B a P b zs l2 N K r E g=>B a P b zs (l1.toD.trans l2) N K r E g) λ_ _ z=>z)
def yT (h:zj X xr e m):yG X xr e (yb m):=by
 try simp only[zG]at*
 exact PE.imp h λσ H Q ⟨φ,A,ρ,S,re,h⟩=>by
  refine tM.go S re (zC.mp h) λw A1 c H1 v b l1 s q=>?_;cases e:zM w A1 with
  |none=>rw[e]at b;exact b.elim|some ws=>
   rw[e]at b;obtain⟨a,ys,rfl,d,E⟩:=Z3 s q e;exact b c H1 a ys l1 s d E
def yy {q:qJ}(h:kA X xr e q):yG X xr e q:=by
 try simp only[zG]at*
 exact PE.imp h λσ H Q ⟨φ,A,ρ,S,re,h⟩=>
  ⟨φ,A,ρ,S,re,zJ h (λws A1 c a H1 D ys l1 s h0 b n r=>c a H1 D ys l1 s (.inl (z8.of b)) r) λ_ _ z=>z⟩
def Px {o i:Expr}{mo mi:Ev}(ho:zj X xr o mo)(hi:zj X xr i mi)(he:zj X xr e m)
  (ha:∀c I new,augStore i c I new=(do holding [new,c,I] (setItem c I new);release [new,c,I] [];pure .next):=by intros;rfl):jf X xr (.AugAssign (.Subscript o i tpos) .Add e pos) (XF mo mi m):=by
 try simp only[zG]at*
 exact PS.imp (NH ho hi Om he Lo set_list ha) λD σ H ⟨φ,A,ρ,S,re,h⟩=>by
   refine tM.go S re (zC.mp h) λP A1 J H1 v1 h1 l1 S1 q=>?_;refine tM.go S1 (re.mono l1) (zJ (zC.mp h1) (λ_ _ z=>z) λ_ _ z=>z.mono l1) λw A2 C H2 v2 a l2 s Y=>?_;have l:=l1.trans l2;cases P with
   |ref n=>cases w with
    |int k=>
     obtain rfl:=Y;dsimp only at a
     by_cases h0:0<=k
     ·rw[af h0]at a
      cases d:(A2[n]?:Option O) with
      |none=>rw[d]at a;exact a.elim|some ob=>cases ob with
       |lst ws=>
        rw[d]at a;dsimp only at a;obtain⟨p,vs,rfl,f1,g1,T⟩:=s.lst (q.mono l2) d;cases E:ws[k.toNat]? with
        |none=>rw[E]at a;exact a.elim|some M=>cases M with
         |int x=>
          rw[E]at a;dsimp only at a;obtain⟨v,Z,Q⟩:=T.get E;obtain rfl:=Q;refine⟨p,vs,k,_,rfl,rfl,h0,g1,Z,?_⟩;refine tM.go s (re.mono l) (zJ (zC.mp a) (λ_ _ z=>z) λ_ _ z=>z.mono l) λN B g H3 v3 b l3 S3 U=>?_;have L:=l.trans l3;cases N with
          |int y=>
           obtain rfl:=U;dsimp only at b;refine⟨x,y,rfl,rfl,?_⟩;refine Xd (K:=X.K) g B H3 (.ref p) (.int k) (.int (x+y)) (.ref n) (.int k) (.int (x+y)) _ S3 ((q.mono l2).mono l3) rfl rfl ?_;cases r:kx (.ref n) (.int k) (.int (x+y)) B with
           |ok u t=>
            rw[r]at b;exactλf H4 j S4=>b f H4 σ (L.trans j) S4 (re.mono (L.trans j))
           |exc z t=>exact absurd r (Xy _ _ _ _ z t)|bad=>rw[r]at b;exact b.elim
          |_=>exact b.elim
         |_=>rw[E]at a;exact a.elim
       |_=>rw[d]at a;exact a.elim
     ·rw[ag h0]at a;exact a.elim
    |_=>exact a.elim
   |_=>cases w<;>exact a.elim
def zm (a:jf X xr st m1)(d:jt X xr rest m2):jt X xr (st::rest) (zl m1 m2):=by
 try simp only[zG]at*
 exact jb.imp (PN a d) λD σ H ⟨φ,A,ρ,S,re,h⟩=>by
   refine⟨φ,A,ρ,S,re,zJ (zC.mp h) (λf A1 a=>?_) λ_ _ z=>z⟩;cases f with
   |nx ρ1=>exactλb e c l s r=>⟨b,A1,ρ1,s,r,zJ a (λ_ _ z=>z.mono l) λ_ _ z=>z.mono l⟩|rt w=>exact a|bk ρ1=>exact a|ct ρ1=>exact a
def yt (he:zj X xr e m)(s:swapsWith e none pos.line X.env=pure false:=by rfl):jf X xr (.Expr e pos) (qV m):=by
 try simp only[zG]at*
 exact PS.imp (O2 he s) λD σ H ⟨φ,A,ρ,S,re,h⟩=>tM.go S re (zC.mp h) λw A1 a H1 v b l1 c q=>b a H1 σ l1 c (re.mono l1)
def yP {iter:Expr}{body:br}{mi:Ei}{t:Tg}(hp:PassesOwn (model X.prog X.w) X.A X.env X.xe)(hc:X.calm=true)(hi:jF X xr tg iter mi)(hg:jZ X tg t)(hb:jt X xr body m1)
  (hs:∀x,foldedSetIterable iter X.env x=pure x:=by intro _;rfl):jf X xr (.For tg iter body [] pos) (jB mi t m1):=by
 try simp only[zG]at*
 exact PS.imp (Ml hp hc hi hg hb hs) λD σ H ⟨φ,A,ρ,S,re,h⟩=>by
   refine⟨φ,A,ρ,S,re,zJ (zC.mp h) (λj A1 h1 g H1 J l1 S1 jr=>?_) λ_ _ z=>z⟩;refine⟨λi f d C=>Vv X.K xr j (turn t m1) D g H1 f i d C,
    ⟨j.len,g,A1,ρ,.refl,S1,re.mono l1,zJ h1 (λ_ _ z=>z.mono l1) λ_ _ z=>z.mono l1⟩,?_⟩
   rintro i f L T ⟨c,I,p,l2,Q,q,b⟩
   obtain⟨j1,j2⟩:=jr i c T I ⟨l2.ex,l2.tp,l2.fz⟩ Q;cases E:j.at_ I i with
   |none=>cases f<;>(unfold jz at b;rw[E]at b;exact b.elim)|some o=>
    cases o with
    |none=>
     left
     refine⟨j2 E,?_⟩;cases f<;>(unfold jz at b;rw[E]at b;exact b c T L .refl Q q)
    |some w=>
     right
     obtain⟨go,Z⟩:=j1 w E;cases f with
     |zero=>unfold jz at b;rw[E]at b;exact b.elim|succ f=>
      unfold jz at b;rw[E]at b;refine⟨go,λd C=>Vv X.K xr j (turn t m1) D g H1 f (i+1) d C,λd C z=>⟨f,aV _,z⟩,λx H3 y=>?_⟩;obtain⟨l3,P,q3⟩:=Z x H3 y;have u:=zC.mp b;unfold turn at u;cases N:t w p with
      |none=>rw[N]at u;exact u.elim|some n=>
       rw[N]at u;refine⟨c,I,p,w,n,P,q.mono l3,q3,N,λY M=>?_⟩;refine⟨c,I,n,P,M,zJ u (λfl U B=>?_) λ_ _ z=>z.mono l3⟩;cases fl with
       |nx e=>exactλa v k l s r=>⟨a,U,e,(l2.trans l3).trans l,s,r,zJ B (λ_ _ z=>z.mono (l3.trans l)) λ_ _ z=>z.mono (l3.trans l)⟩|ct e=>exactλa v k l s r=>⟨a,U,e,(l2.trans l3).trans l,s,r,zJ B (λ_ _ z=>z.mono (l3.trans l)) λ_ _ z=>z.mono (l3.trans l)⟩|bk e=>exactλa v k l s r=>B a v k (l3.trans l) s r|rt w4=>exactλa v v4 l s q4=>B a v v4 (l3.trans l) s q4
def jd {sa s:br}(e:qX X xr c mc)(g:jt X xr sa m1)(f:jt X xr s m2):jf X xr (.If c sa s pos) (qv mc m1 m2):=by
 try simp only[zG]at*
 exact PS.imp (IF e g f) λD σ H ⟨φ,A,ρ,S,re,h⟩=>by
   refine tT.go S re (zC.mp h) λw A1 a=>?_;cases w with
   |bl k=>
    refine⟨k,rfl,λb H1 l1 d=>?_⟩;cases k with
    |true=>rw[af rfl];exact⟨b,A1,ρ,d,re.mono l1,zJ a (λ_ _ z=>z.mono l1) λ_ _ z=>z.mono l1⟩|false=>rw[ag ao];exact⟨b,A1,ρ,d,re.mono l1,zJ a (λ_ _ z=>z.mono l1) λ_ _ z=>z.mono l1⟩
   |non=>cases a|int _=>cases a|str _=>cases a|tup _=>cases a|ref _=>cases a|clo _ _ _=>cases a|xc _=>cases a|fn _=>cases a
def zB:jt X xr [] zy:=by
 try simp only[zG]at*
 exact jb.imp Nr λD σ H ⟨φ,A,ρ,S,re,h⟩=>h φ H σ .refl S re
def zX (he:zj X xr e m):jf X xr (.Return (some e) pos) (zY m):=by
 try simp only[zG]at*
 exact PS.imp (MB he) λD σ H ⟨φ,A,ρ,S,re,h⟩=>tM.go S re (zC.mp h) λw A1 a H1 v b l1 s q=>b a H1 v l1 s q
def qi (i:Nat){pos':Pos}(b:X.N.Nodup)(he:zj X xr e m)(a:X.N[i]? =some x:=by rfl)(h:Loc X.env.scope x:=by first|exact Or.inl rfl|exact Or.inr rfl)(H:swapsWith e (some (.Name x pos')) pos.line X.env=pure false:=by rfl)
  (hf:X.fn x=true∨X.env.scope.names.lookup x=some .local:=by first|exact .inl rfl|exact .inr rfl):jf X xr (.Assign [.Name x pos'] e pos) (zS i m):=by
 try simp only[zG]at*
 exact PS.imp (NS b a h he H hf) zS.read
def TQ (i:Nat){iter:Expr}{mi:Ei}{t:Tg}{M:Ev}{em:Em}{P a:Pos}(nl:Nat)(cap:ba)(j:X.N.Nodup)
  (e:X.calm=true)(S:yL X sc)(p:kP X.N N sc nl cap=true)(hw:jF X xr tg iter mi)
  (n:∀s H fp,jZ (qt X N sc s H fp q9) tg t/\yF (qt X N sc s H fp q9) ifs M/\ym (qt X N sc s H fp q9) elt (⟨tg,iter,ifs,0⟩::gs) sc pos 0 em)
  (b:X.N[i]? =some x:=by rfl)(c:X.env.scope.names.lookup x=some .local:=by rfl)
  (w:swapsWith (.ListComp elt (⟨tg,iter,ifs,0⟩::gs) sc pos) (some (.Name x P)) a.line X.env=pure true:=by rfl)
  (f:∀g',gs[0]? =some g'->g'.is_async=0:=by intro _ h;cases h<;>rfl)
  (d:∀x,foldedSetIterable iter X.env x=pure x:=by intro _;rfl):jf X xr (.Assign [.Name x P] (.ListComp elt (⟨tg,iter,ifs,0⟩::gs) sc pos) a) (zS i (jy (qg nl cap mi t M em))):=by
 try simp only[zG]at*
 exact PS.imp (L2.SV (g:=tG X.K t) (ti:=tT X.K qx M) (tm:=tE X.K em) j b c w e S p f hw n d) λD σ H h=>qg.read σ H _ (jy.read σ H _ (zS.read D σ H h))
def Za (h:yq X xr e m):qX X xr e m:=by
 try simp only[zG]at*
 exact PW.pt h
def j5 {g:W->W->Hx->R W}(h:j8 X op g)(c:zj X xr a ma)(H:zj X xr b mb)(e:op≠.In:=by decide)(d:op≠.NotIn:=by decide):qX X xr (.Compare a [op] [b] pos) (zA g ma mb):=by
 try simp only[zG]at*
 exact let ⟨r,a1,a2,A⟩:=h.ex;Xz a1 a2 A c H (h.mks b e d)
def Ld {o:CmpOp}{g g':W->W->Hx->R W}(h:j8 X op g)(h':j8 X o g')(e:zj X xr a ma)(d:zj X xr b mb)(H:zj X xr c mc)(hm:lastMarks [op,o] [b,c]=false:=by with_unfolding_all rfl):
  qX X xr (.Compare a [op,o] [b,c] pos) (yx g g' ma mb mc):=by
 try simp only[zG]at*
 exact let ⟨r,a1,a2,A⟩:=h.ex;let ⟨j,i,f,B⟩:=h'.ex;P4 a1 a2 A i f B e d H hm
def Xw {g:W->W->Hx->R W}(h:QQ X op g)(c:zj X xr a ma)(H:zj X xr b mb)(hm:behindInMarks op b=false:=by rfl):qX X xr (.Compare a [op] [b] pos) (zA g ma mb):=by
 try simp only[zG]at*
 exact let ⟨r,a1,a2,A⟩:=h.ex;Xz a1 a2 A c H hm
def yN (f:qX X xr a ma):qX X xr (.UnaryOp .Not a pos) (jM ma):=by
 try simp only[zG]at*
 exact PT.imp (Mm f) λσ H Q ⟨φ,A,ρ,S,re,h⟩=>by
   refine tT.go S re (zC.mp h) λw A1 c=>?_;cases w with
   |bl k=>obtain⟨b,e,q⟩:=c;cases e;exact⟨k,rfl,λd H1 l1 s=>q d H1 l1 s⟩|non=>cases c|int _=>cases c|str _=>cases c|tup _=>cases c|ref _=>cases c|clo _ _ _=>cases c|xc _=>cases c|fn _=>cases c
def yi (h:zj X xr e m)(he:∀whole,isTrue e X.env whole=(do let v <- whole;standAt e.pos;holding [v] (truthy v)):=by intro _;rfl):qX X xr e m:=by
 try simp only[zG]at*
 exact PT.imp (M7 h he) λσ H Q h=>h.toM
def jg:yF X [] (zq (.bl true)):=by
 try simp only[zG]at*
 exactλpins s σ H Q I ⟨φ,A,ρ,S,re,h⟩=>Od pins s σ H Q I (by
  obtain⟨b,e,q⟩:=h;cases e;exact q φ H .refl S)
def P6 (h:qX X qx c mc):yF X [c] mc:=by
 try simp only[zG]at*
 exact P7 h
def GR {rest:bf}(g:qX X xr a ma)(f:yq X xr (.BoolOp .And (b::rest) pos) mb):yq X xr (.BoolOp .And (a::b::rest) pos) (jK ma mb):=by
 try simp only[zG]at*
 exact PW.imp (pw_and g f) λσ H Q ⟨φ,A,ρ,S,re,h⟩=>by
   refine tT.go S re (zC.mp h) λw A1 c=>?_;cases w with
   |bl k=>
    refine⟨k,rfl,λd H1 l1 s=>?_⟩;cases k with
    |true=>rw[af rfl];exact tT.mono s l1 re c|false=>rw[ag ao];obtain⟨b,e,q⟩:=c;cases e;exact q d H1 l1 s
   |non=>cases c|int _=>cases c|str _=>cases c|tup _=>cases c|ref _=>cases c|clo _ _ _=>cases c|xc _=>cases c|fn _=>cases c
def GI (h:qX X xr a ma):yq X xr (.BoolOp .And [a] pos) ma:=by
 try simp only[zG]at*
 exact pw_and1 h
def Yr {rest:bf}(g:qX X xr a ma)(f:yq X xr (.BoolOp .Or (b::rest) pos) mb):yq X xr (.BoolOp .Or (a::b::rest) pos) (Q4 ma mb):=by
 try simp only[zG]at*
 exact PW.imp (pw_or g f) λσ H Q ⟨φ,A,ρ,S,re,h⟩=>by
   refine tT.go S re (zC.mp h) λw A1 c=>?_;cases w with
   |bl k=>
    refine⟨k,rfl,λd H1 l1 s=>?_⟩;cases k with
    |false=>rw[ag ao];exact tT.mono s l1 re c|true=>rw[af rfl];obtain⟨b,e,q⟩:=c;cases e;exact q d H1 l1 s
   |non=>cases c|int _=>cases c|str _=>cases c|tup _=>cases c|ref _=>cases c|clo _ _ _=>cases c|xc _=>cases c|fn _=>cases c
def Ym (h:qX X xr a ma):yq X xr (.BoolOp .Or [a] pos) ma:=by
 try simp only[zG]at*
 exact pw_or1 h
def jq {K:Frag}{st:Stmt}{m:Ex}(F:jj K x x st f fd)(hm:mg x=some (.ref f))(S:zV N ps (zH st))
  (i:∀(kV doc pm:Value)(an:bq)(c ct:Value)(us:a7),us.length=ps.length->bindArgs (fnOf x x (kf st) (jx st) (zH st) .none kV doc pm an c ct) ⟨us,[]⟩=pure (ps.zip us))
  (a:∀(c:Value)(A:Around)(outer:bj)(s:Shared)(H:Hp)(E:XK),zW k (A.deeper (envOfC x (zH st) s.heap.objs.size f c))->jt (jA jS P w K mg base N x (zH st) f c A outer s H E).nox qx (jx st) m):
  zL P w K mg base (k+1) x ps.length (qu N.length m):=by
 try simp only[zG]at*
 refine⟨f,fd,ps,?_,hm,F.kp,F.binds i⟩;refine F.ok S (λvs H Q E h=>h.len) λc A outer s H vs Q E g ⟨t,φ,A1,ws,n,r,h⟩=>⟨_,a c A outer s H E g,?_⟩;refine⟨φ,A1,ws.map some++List.replicate (N.length-ws.length) none,n,RE.start r,?_⟩;have h':=zC.mp h;show R.post _ (FB K φ H _) _;cases e:m (ws.map some++List.replicate (N.length-ws.length) none) A1 with
 |ok j q=>
  rw[e]at h';cases j with
  |rt w=>exact h'|nx ρ=>exactλb p d l o _=>h' b p .non l o rfl|bk ρ=>exact h'.elim|ct ρ=>exact h'.elim
 |exc y q=>
  rw[e]at h';exact h'.elim
 |bad=>rw[e]at h';exact h'.elim
def JM (i:zj X xr a ma)(he:zj X xr b mb)(s:starEach [b] X.env=(false,eval b X.env)::starEach [] X.env:=by rfl)
  (e:attributeBase a "append" X.env (eval a X.env)=eval a X.env:=by rfl)
  (w:((backTo cpos (starEach [b] X.env)).all (λx=>!x.1)&&(backToKw cpos (keywordEach [] X.env)).all (λx=>x.1.isSome)
   && decide ([b].length+([]:bp).length+(if ([]:bp).isEmpty then 0 else 1)<30))=true:=by rfl)(h:(apos.endLine==cpos.line)=true:=by rfl):
  zj X xr (.Call (.Attribute a "append" apos) [b] [] cpos) (kN yM ma mb):=by
 try simp only[zG]at*
 exact L5 PySem.F.slot_list_append PySem.F.type_list_append Gk RN (λφ A H x y u v Q S g q p=>by
   unfold yM at p;cases u with
   |ref n=>
    dsimp only at p;cases E:A[n]? with
    |none=>rw[E]at p;exact p.elim|some o=>cases o with
     |lst ws=>
      rw[E]at p;dsimp only at p
      by_cases c:ws.length<qm
      ·rw[af c]at p
       obtain⟨l,vs,rfl,f1,g1,r⟩:=S.lst g E;refine⟨l,vs,y,rfl,rfl,g1,?_,?_⟩
       ·rw[<- r.length]
        have:sizeLine=16777216:=sizeLine_eq
        unfold qm at c;omega
       ·have ln:Le X.K φ H φ (upd H l (.lst (vs++[y]))):=Le.upd f1 (λxs z=>by rw[g1]at z;cases z) (λ_ _ z=>by rw[g1]at z;cases z)
        obtain⟨f,d⟩:=S.write (o:=.lst ws) (o':=.lst (ws++[v])) E rfl rfl f1 ⟨_,ql,(r.mono ln).append (.one (q.mono ln))⟩;exact p _ _ _ f d rfl
      ·rw[ag c]at p;exact p.elim
     |_=>rw[E]at p;exact p.elim
   |_=>exact p.elim) i he s e w h
def zD {x j}:zj X xr (.Constant (.str x) j pos) (zq (.str x)):=by
 try simp only[zG]at*
 exact PE.imp Mb λσ H Q ⟨φ,A,ρ,S,r,h⟩=>h φ H _ .refl S rfl
def GQ {o i:Expr}{mo mi:Ev}(he:zj X xr e m)(H:zj X xr o mo)(a:zj X xr i mi)
  (h:swapsWithSole [.Subscript o i tpos] e pos.line X.env=pure false:=by rfl)(hw:swappedStores [.Subscript o i tpos] e X.env=pure none:=by rfl)
  (c:(assignEach [.Subscript o i tpos] X.env).map (·.2)=[assign (.Subscript o i tpos) X.env]:=by rfl)
  (b:∀v,assign (.Subscript o i tpos) X.env v=(do
   let ov <- holding [v] (eval o X.env)
   let iv <- holding [v,ov] (eval i X.env)
   standAt tpos
   holding [v,ov,iv] (setItem ov iv v)
   release [v,ov,iv] []):=by intro _;rfl):jf X xr (.Assign [.Subscript o i tpos] e pos) (Qt kx m mo mi):=by
 try simp only[zG]at*
 exact PM set_list Xy Xd he H a h hw c b
end
end Mi
variable {mr:Mi.Ea}{ρ:Mi.En}{A:Mi.Hx}{ws:List Mi.W}{tw:Mi.Tg}{g:Mi.W->Mi.W->Mi.Hx->Mi.R Mi.W}{xr:Mi.XR}{q:Mi.qJ}
set_option maxHeartbeats 4000000
namespace Mi
open PySem L2
section
variable {ρ1:En}{A1 A2:Hx}{w x y:W}{m ma mb mc:Ev}{m1 m2:Ex}{f:Fn}
def yh (h:ρ[i]? =some (some w)):jX i ρ A=.ok w A:=by unfold jX;rw[h]
def wk:zq w ρ A=.ok w A:=rfl
def yv (H:ma ρ A=.ok x A1)(h:mb ρ A1=.ok y A2):zA g ma mb ρ A=g x y A2:=by unfold zA;rw[H,qc,h,qc]
def GW {k:Bool}(h:ma ρ A=.ok (.bl k) A1):jM ma ρ A=.ok (.bl (!k)) A1:=by unfold jM;rw[h,qc]
def N3 (h:ma ρ A=.ok (.bl true) A1):jK ma mb ρ A=mb ρ A1:=by unfold jK;rw[h,qc]
def Zd (h:ma ρ A=.ok (.bl false) A1):jK ma mb ρ A=.ok (.bl false) A1:=by unfold jK;rw[h,qc]
def Gz {a:Ea}(h:a ρ A=.ok ws A1):z0 f a ρ A=f ws A1:=by unfold z0;rw[h,qc]
def Qk:zt ρ A=.ok [] A:=rfl
def Qa {r:Ea}(H:ma ρ A=.ok x A1)(h:r ρ A1=.ok ws A2):zh ma r ρ A=.ok (x::ws) A2:=by unfold zh;rw[H,qc,h,qc]
def Qe {a:Ea}(h:a ρ A=.ok ws A1):qe a ρ A=.ok (.ref A1.length) (A1++[.lst ws]):=by unfold qe;rw[h,qc]
def qY (h:m1 ρ A=.ok (.nx ρ1) A1):zl m1 m2 ρ A=m2 ρ1 A1:=by unfold zl;rw[h,qc]
def J9 (h:m1 ρ A=.ok (.rt w) A1):zl m1 m2 ρ A=.ok (.rt w) A1:=by unfold zl;rw[h,qc]
def gq:zy ρ A=.ok (.nx ρ) A:=rfl
def Qh (h:m ρ A=.ok w A1):zS i m ρ A=.ok (.nx (ρ.set i (some w))) A1:=by unfold zS;rw[h,qc]
def XC (h:m ρ A=.ok w A1):qV m ρ A=.ok (.nx ρ) A1:=by unfold qV;rw[h,qc]
def J7 (h:m ρ A=.ok w A1):zY m ρ A=.ok (.rt w) A1:=by unfold zY;rw[h,qc]
def XY (h:mc ρ A=.ok (.bl true) A1):qv mc m1 m2 ρ A=m1 ρ A1:=by unfold qv;rw[h,qc]
def Zn (h:mc ρ A=.ok (.bl false) A1):qv mc m1 m2 ρ A=m2 ρ A1:=by unfold qv;rw[h,qc]
def OD {mi:Ei}{j:qM}(h:mi ρ A=.ok j A1):jB mi tw m1 ρ A=jz j (turn tw m1) j.len 0 ρ A1:=by unfold jB;rw[h,qc]
def Oy (h:tw w ρ=some ρ1):turn tw m1 w ρ A=m1 ρ1 A:=by unfold turn;rw[h]
def Ss {j:qM}{st:W->Ex}(h:j.at_ A i=some none):jz j st n i ρ A=.ok (.nx ρ) A:=by
 cases n with
 |zero=>unfold jz;rw[h]|succ n=>unfold jz;rw[h]
def PC {j:qM}{st:W->Ex}(h:j.at_ A i=some (some w))(H:st w ρ A=.ok (.nx ρ1) A1):jz j st (n+1) i ρ A=jz j st n (i+1) ρ1 A1:=by
 rw[jz,h];dsimp only;rw[H,qc]
def NV {lo:Int}(h:i<k):(kQ lo k).at_ A i=some (some (.int (lo+i))):=by unfold kQ;dsimp only;rw[af h]
def Nq {lo:Int}(h:¬i<k):(kQ lo k).at_ A i=some none:=by unfold kQ;dsimp only;rw[ag h]
def Yj (h:m1 (ws.map some++List.replicate (n-ws.length) none) A=.ok (.rt w) A1):qu n m1 ws A=.ok w A1:=by unfold qu;rw[h];rfl
end
end Mi
set_option maxHeartbeats 4000000
namespace Mi
open PySem L2
def Pe {j:qM}{ifs me:Ev}{c:En}{N:Nat}{item g:Nat->W}{keep:Nat->Bool}(t:∀i,i<N->j.at_ A i=some (some (item i)))(d:j.at_ A N=some none)
  (a:∀i,i<N->ifs (some (item i)::c) A=.ok (.bl (keep i)) A)(he:∀i,i<N->keep i=true->me (some (item i)::c) A=.ok (g i) A):
  ∀(n i:Nat)(x:Option W)(acc:List W),i+n=N->acc.length+n<=qm->∃y,ju j (qb 0) ifs (qo me) n i (x::c) acc A=.ok (y::c,acc++((List.range' i n).filter keep).map g) A:=by
 intro n
 induction n with
 |zero=>
  intro i x acc h _
  have:i=N:=by omega
  subst this;refine⟨x,?_⟩;unfold ju;rw[d];simp
 |succ n I=>
  intro i x acc h l;have H:i<N:=by omega
  rw[ju,t i H];dsimp only[qb,List.set];rw[a i H,qc];rw[List.range'_succ];cases k:keep i with
  |true=>
   dsimp only;obtain⟨y,e⟩:=I (i+1) (some (item i)) (acc++[g i]) (by omega) (by rw[aE,List.length_singleton];omega)
   refine⟨y,?_⟩;have E:qo me (some (item i)::c) acc A=.ok (some (item i)::c,acc++[g i]) A:=by
    unfold qo;rw[he i H k,qc,af (by omega)]
   rw[E,qc];dsimp only;rw[e,List.filter_cons_of_pos k,aP,aR]
   rfl
  |false=>
   dsimp only;obtain⟨y,e⟩:=I (i+1) (some (item i)) acc (by omega) (by omega)
   exact⟨y,by rw[e,List.filter_cons_of_neg (by rw[k];exact ao)]⟩
def SX {cap:ba}{mi:Ei}{j:qM}{ifs me:Ev}{N:Nat}{item g:Nat->W}{keep:Nat->Bool}(hm:mi ρ A=.ok j A)(a:j.len=N)(d:N<=qm)
  (H:∀i,i<N->j.at_ A i=some (some (item i)))(h:j.at_ A N=some none)(b:∀i,i<N->ifs (some (item i)::cap.map λi=>(ρ[i]?).join) A=.ok (.bl (keep i)) A)
  (he:∀i,i<N->keep i=true->me (some (item i)::cap.map λi=>(ρ[i]?).join) A=.ok (g i) A):
  qg 1 cap mi (qb 0) ifs (qo me) ρ A=.ok (((List.range N).filter keep).map g) A:=by
 obtain⟨y,e⟩:=Pe H h b he N 0 none [] (Nat.zero_add N) (by simpa using d)
 unfold qg;rw[hm,qc,a];have c:gB 1 cap ρ=none::cap.map λi=>(ρ[i]?).join:=rfl;rw[c,e,nil_append,<- List.range_eq_range']
 rfl
def Gu {A1:Hx}(h:q ρ A=.ok ws A1):jy q ρ A=.ok (.ref A1.length) (A1++[.lst ws]):=by unfold jy;rw[h,qc]
open PySem PySem.Spec PyProof.Rows L2
inductive Hr (H:Hp)(h g:Heap)(e:Addr)(vs:Array Value):Prop
 |mk (T:Addr) (oT:Obj) (ts:Array Value) (h1:vs[1]? =some (.ref T)) (ne:T≠e) (ng:g.get? T=none) (nH:H T=none) (hT:h.get? T=some oT) (hd:oT.data=.fields ts) (h3:ts[3]? =some .none)
inductive j6 (H:Hp)(h g:Heap)(e:Addr)(C:Value):Prop
 |mk (ng:g.get? e=none) (nH:H e=none) (oe:Obj) (vs:Array Value) (a0:Value) (he:h.get? e=some oe) (hc:oe.cls=C) (hd:oe.data=.fields vs) (h0:vs[0]? =some a0) (h1:vs[1]? =some .none∨Hr H h g e vs)
inductive Tr (h:Heap)(e:Addr):Prop
 |mk (oe:Obj) (vs:Array Value) (T:Addr) (he:h.get? e=some oe) (hd:oe.data=.fields vs) (h1:vs[1]? =some (.ref T))
section
variable {A:Around}{L e:Addr}{C:Value}{g:Heap}
theorem frames_at {B:Heap}:∀{l:bj},s.heap.FunFrames base l->(∀b∈zK l,B.get? b=none)->s.heap.FunFrames B l
 |[],_,_=>trivial|e::r,⟨k,⟨L,o,hf,hn,a,hd⟩,H⟩,h=>⟨k,⟨L,o,hf,h L (by unfold zK;rw[aQ,hf];exact aA ..),a,hd⟩,frames_at H λb c=>h b (by
   unfold zK;rw[aQ,hf];exact av _ c)⟩
def Xn {Q:Unit->Shared->Prop}(w:A.frames=some (env::outer))(hf:env.frame=some L)(I:s.heap.FunFrames base (env::outer))(x:j6 H s.heap g e C)
  (tr:∀b u,H b=some u->∃o,s.heap.get? b=some o)(th:∀b o,g.get? b=some o->∃o',s.heap.get? b=some o')
  (hQ:∀h',(∀b o,s.heap.get? b=some o->b∉zK (env::outer)->((∃o',g.get? b=some o')∨∃u,H b=some u)->h'.get? b=some o)->(∀b o,s.heap.get? b=some o->b∈zK (env::outer)->∃Y,h'.get? b=some { o with slots:=Y })->
   j6 H h' g e C->Tr h' e->Q () { s with heap:=h' }):wpAny M A (leaving env (.ref e)) Q E s:=by
 obtain⟨K,S,oe,vs,a0,he,hc,hd,h0,B⟩:=x;have fin:∀(d:a8),(∀b∈zK (env::outer),b∈d)->(∀b∈d,b∉zK (env::outer)->g.get? b=none/\H b=none)->∀h',Heap.LeftW (hideAll s.heap d) (env::outer) e C a0 s.heap h'->Q () { s with heap:=h' }:=by
  intro d hi1 r h' ⟨st,ff,p,us⟩;refine hQ h' (λb o h nb hx=>?_) (λb o h mb=>?_) ?_ (by obtain⟨i,v,T,D,t,j,_,k,n,_⟩:=p;exact⟨i,v,T,j,k,n⟩)
  ·refine st b o (a4 d h λhm=>?_)
   obtain⟨z1,z2⟩:=r b hm nb;rcases hx with ⟨o',q⟩|⟨u,q⟩
   ·rw[z1]at q;cases q
   ·rw[z2]at q;cases q
  ·obtain⟨_,o',a,f⟩:=I.mem mb
   rw[h]at a;cases a;exact us b o h f
  ·obtain⟨i,v,T,D,t,j,⟨N,X⟩,k,n,y,l,hT,c,U⟩:=p
   have nT:T∉zK (env::outer):=λhm=>by
    obtain⟨_,o',a,f⟩:=I.mem hm;obtain⟨Y,z⟩:=us T o' a f;rw[hT]at z;cases z;exact f t c
   have both:g.get? T=none/\H T=none:=by
    cases q:s.heap.get? T with
    |some o=>
     by_cases hm:T∈d
     ·exact r T hm nT
     ·rw[a4 d q hm]at y;cases y
    |none=>
     constructor
     ·cases z:g.get? T with
      |none=>rfl|some o=>obtain⟨o',Z⟩:=th T o z;rw[q]at Z;cases Z
     ·cases z:H T with
      |none=>rfl|some u=>obtain⟨o',Z⟩:=tr T u z;rw[q]at Z;cases Z
   exact⟨K,S,i,v,a0,j,N,k,X,.inr ⟨T,D,t,n,l,both.1,both.2,hT,c,U⟩⟩
 have stay:∀d:a8,(hideAll s.heap d).StaysIn s.heap:=λd b o q=>of_hideAll d q;rcases B with B|⟨T,D,t,B,l,J,P,hT,c,U⟩
 ·have hn:∀b∈e::zK (env::outer),(hideAll s.heap (e::zK (env::outer))).get? b=none:=λb h=>hideAll_none _ h
  refine wpAny_leaving_firstW (base:=hideAll s.heap (e::zK (env::outer))) w (frames_at I λb h=>hn b (av _ h)) hf he (stay _) (hn e (aA ..)) hd B h0 ?_;rw[hc];refine fin _ (λb h=>av _ h) λb h nb=>?_;rcases bz.mp h with rfl|h
  ·exact⟨K,S⟩
  ·exact absurd h nb
 ·have hn:∀b∈e::T::zK (env::outer),(hideAll s.heap (e::T::zK (env::outer))).get? b=none:=λb h=>hideAll_none _ h
  refine wpAny_leaving_nextW (base:=hideAll s.heap (e::T::zK (env::outer))) w (frames_at I λb h=>hn b (av _ (av _ h))) hf
   ⟨oe,vs,T,D,t,he,⟨hc,h0⟩,hd,B,hn T (av _ (aA ..)),l,hT,c,U⟩ (stay _) (hn e (aA ..)) ?_
  refine fin _ (λb h=>av _ (av _ h)) λb h nb=>?_;rcases bz.mp h with rfl|h
  ·exact⟨K,S⟩
  ·rcases bz.mp h with rfl|h
   ·exact⟨J,P⟩
   ·exact absurd h nb
end
inductive MX (P:Program)(w:World)(outer:bj)(H:Hp)(s:Shared)(E:XK)(e:Value)(s':Shared):Prop
 |mk (ea C:Addr) (H':Hp) (he:e=.ref ea) (os:s'.os=s.os) (b:AllBare s'.gens) (un:Un (zK outer) [] H H' s.heap s'.heap) (hk:z9 P w H' s'.heap) (ly:j6 H' s'.heap s.heap ea (.ref C)) (tr:Tr s'.heap ea) (q:E (.ref C) none H')
noncomputable def jR (P:Program)(w:World):yk:=λouter H s E e s'=>MX P w outer H s E e s'
def _root_.L2.qd.obj (x:qd P w H h a o):∃ob,h.get? a=some ob:=by
 cases o with
 |lst xs=>obtain⟨_,_,_,_,e⟩:=x;exact⟨_,e⟩|tup xs=>obtain⟨_,_,_,o,e,_⟩:=x;exact⟨o,e⟩|dK kvs=>obtain⟨_,_,_,_,o,_,_,e,_⟩:=x;exact⟨o,e⟩|dT kvs=>obtain⟨_,_,_,_,o,_,_,e,_⟩:=x;exact⟨o,e⟩|set S n=>obtain⟨o,_,_,_,e,_⟩:=x;exact⟨o,e⟩|ins C d fs=>obtain⟨_,_,_,e,_⟩:=x;exact⟨_,e⟩|own y=>exact x|xd fs=>obtain⟨_,⟨o,_,_,e,_⟩,_⟩:=x;exact⟨o,e⟩|rng lo i=>obtain⟨_,_,_,e⟩:=x;exact⟨_,e⟩|frz ob u=>exact⟨ob,x.1⟩|tbl p=>exact⟨_,(show h.get? a=some _ from x)⟩|met f y=>exact⟨_,(show h.get? a=some _ from x)⟩|ext φ=>exact x.2.1
def RO {K:Frag}{cd:Value}{A:Around}{E:XK}
  {h:Hp}{a:Addr}(I:Inv (jA (jR P w) P w K mg base N qual scope f cd A outer s H E) pins σ h s')(x:j6 h s'.heap s.heap a (.ref C))(p:E (.ref C) none h):
  (jA (jR P w) P w K mg base N qual scope f cd A outer s H E).xe (.ref a) s':=by
 have bs:Un (zK outer) [] H h s.heap s'.heap:=I.base;have stk:∀b∈zK (envOfC qual scope s.heap.objs.size f cd::outer),h b=none:=I.stkFree;have k:s.heap.get? s.heap.objs.size=none:=Heap.get?_none_of_le (ak _);have g:(envOfC qual scope s.heap.objs.size f cd).frame=some s.heap.objs.size:=rfl;have mem:∀b,b∈zK (envOfC qual scope s.heap.objs.size f cd::outer)↔b=s.heap.objs.size∨b∈zK outer:=λb=>by
  unfold zK;rw[aQ,g];exact mem_cons
 show wpAny (model P w) (A.deeper (envOfC qual scope s.heap.objs.size f cd)) (leaving (envOfC qual scope s.heap.objs.size f cd) (.ref a)) _ _ s';refine Xn (base:=base) (L:=s.heap.objs.size) I.ok.frames rfl I.stack x (λb u e=>(I.hok b u e).obj) (λb o e=>bs.there b o e (by simp)) λh' k1 k2 X t=>?_
 have r:∀b u,h b=some u->b∉zK (envOfC qual scope s.heap.objs.size f cd::outer):=λb u e hm=>by rw[stk b hm]at e;cases e
 refine⟨a,C,h,rfl,I.os,I.bare,⟨λb o e n nb _=>?_,λb o e n M _=>?_,λb o e n d=>bs.free b o e n d,λb o e d=>?_,bs.tups,bs.frzs,bs.tbls⟩,λb u e=>?_,X,t,p⟩
 ·have i:b≠s.heap.objs.size:=λz=>by rw[z,k]at e;cases e
  exact k1 b o (bs.keep b o e n nb (by simp)) (λhm=>(mem b).mp hm |>.elim i nb) (.inl ⟨o,e⟩)
 ·obtain⟨l,q⟩:=bs.slot b o e n M (by simp)
  obtain⟨S,Q⟩:=k2 b _ q ((mem b).mpr (.inr M));exact⟨S,Q⟩
 ·obtain⟨o',q⟩:=bs.there b o e d
  by_cases hm:b∈zK (envOfC qual scope s.heap.objs.size f cd::outer)
  ·obtain⟨l,z⟩:=k2 b o' q hm;exact⟨_,z⟩
  ·exact⟨o',k1 b o' q hm (.inl ⟨o,e⟩)⟩
 ·refine(I.hok b u e).stay (λc v j q=>?_) (λ_ q=>q) λ_ _ q=>q
  rcases j with z|z
  ·rw[z]at q ⊢;exact k1 b v q (r b u e) (.inr ⟨u,e⟩)
  ·exact k1 c v q (r c _ z) (.inr ⟨_,z⟩)
def Gi {E:XK}{e:Value}(I:Inv X pins σ H s)(h:jR X.prog X.w X.stack H s E e s')(g:Heap)(p:∀b o,g.get? b=some o->∃o',s.heap.get? b=some o'):
  ∃a C c,e=.ref a/\Inv X pins σ c s'/\j6 c s'.heap g a (.ref C)/\Tr s'.heap a/\E (.ref C) none c:=by
 obtain⟨a,C,c,rfl,os,bare,un,hok,x,tr,r⟩:=h;obtain⟨l,u,d,t,f⟩:=s';obtain rfl:f=s.os:=os;refine⟨a,C,c,rfl,I.call (h':=l) (g':=u) (d':=d) (t':=t) (ch:=[]) un hok bare (λb z=>absurd z (by simp)),?_,tr,r⟩
 have up:∀b,s.heap.get? b=none->g.get? b=none:=λb n=>by
  cases z:g.get? b with
  |none=>rfl|some o=>obtain⟨o',q⟩:=p b o z;rw[n]at q;cases q
 obtain⟨a1,a2,j,vs,S,Q,P,N,M,B⟩:=x;refine⟨up a a1,a2,j,vs,S,Q,P,N,M,?_⟩;rcases B with B|⟨T,k,i,L,K,J,D,A,y,v⟩
 ·exact .inl B
 ·exact .inr ⟨T,k,i,L,K,up T J,D,A,y,v⟩
noncomputable def yg (K:Frag)(E:XK):XR:=λx H=>∀C:Addr,qZ K x (.ref C)->E (.ref C) none H
inductive wY (K:Frag)(n:Nat)(f:Fn)(vs:List V)(H:Hp)(Q:VK)(E:XK):Prop
 |mk (len:vs.length=n) (φ:a8) (A:Hx) (ws:List W) (S:zu K φ A H) (r:zo K φ H ws vs) (q:(f ws A).post (PB K φ H Q) (EB K φ H (yg K E)))
def wY.len {K:Frag}{f:Fn}{Q:VK}{E:XK}(h:wY K n f vs H Q E):vs.length=n:=by cases h;assumption
inductive zU (P:Program)(w:World)(K:Frag)(mg:bh)(base:Heap)(k:Nat)(x:Str)(n:Nat)(f:Fn):Prop
 |mk (fa:Addr) (fd:FuncData) (ps:bb) (F:qA P w K mg base (jR P w) k fa fd ps (wY K n f)) (at_:mg x=some (.ref fa)) (kp:keepIn K (.ref fa)=true) (bi:Binds K fd ps [])
structure jO (X:Cx)(g:Heap)(xr:XR):Prop where
 th:∀pins σ H s,Inv X pins σ H s->∀b o,g.get? b=some o->∃o',s.heap.get? b=some o'
 out:∀pins σ H s ea C x,Inv X pins σ H s->j6 H s.heap g ea (.ref C)->qZ X.K x (.ref C)->xr x H->X.xe (.ref ea) s
def Vc {K:Frag}{cd:Value}{A:Around}{E:XK}:
  jO (jA (jR P w) P w K mg base N qual scope f cd A outer s H E) s.heap (yg K E) where
 th:=λpins σ h s' I b o e=>(show Un (zK outer) [] H h s.heap s'.heap from I.base).there b o e (by simp)
 out:=λpins σ h s' d C x I l c a=>RO I l (a C c)
section
variable {g:Heap}{c:Expr}
noncomputable def Kd (K:Frag)(X:XR):XK:=λc _ H=>∃x C,c=.ref C/\qZ K x (.ref C)/\X x H
def jO.passes (x:jO X g xr):Passes (jR X.prog X.w) X (Kd X.K xr):=λpins σ H s e s' I h=>by
 obtain⟨b,C,d,rfl,i,l,_,nm,f,E,c,a⟩:=Gi I h g (x.th pins σ H s I);cases E;exact x.out pins σ d s' b C nm i l c a
end
noncomputable def qU (n:Nat)(m:Ex):Fn:=λws A=>(m (ws.map some++List.replicate (n-ws.length) none) A).bind λf A1=>match f with
 |.rt w=>.ok w A1|.nx _=>.ok .non A1|_=>.bad
inductive YU (C:Addr)(bmB:a7)(newId:String)(h:Heap):Prop
 |mk (tl N nm q bs hdct sn sub ab col dd k0 k1 k2 k3 k5 mN:_) (obj:h.get? C=some (excClassObj nm q C N bs tl hdct sn sub ab col dd k0 k1 k2 k3 k5 newId)) (ns:h.Ns N mN) (init:mN "__init__"=none) (tail:OwnTail h bmB tl)
noncomputable def HI (d:Data):Option { c:ClassData // d=.cls c }:=match d with
 |.cls c=>some ⟨c,rfl⟩|_=>none
def yB (K:Frag)(C:Addr)(b:a7)(newId:String):Bool:=(K.lookup C).any λo=>(HI o.data).any λc=>
 o.cls==.type "type" && c.1.mro==.ref C::c.1.mro.tail&&o.slots.toList==[o.slots.toList.getD 0 none,o.slots.toList.getD 1 none,o.slots.toList.getD 2 none,o.slots.toList.getD 3 none,some (.builtin newId),o.slots.toList.getD 5 none]
  && c.1.hasDel==false&&PySem.W.tailIn K b c.1.mro.tail&&PySem.W.nsOkIn K c.1.ns&&nsIn K c.1.ns "__init__" == some none
def YW {K:Frag}{b:a7}{newId:String}(X:K.In h)(q:yB K C b newId=true):YU C b newId h:=by
 obtain⟨⟨o,dd,dat,⟨s⟩⟩,H,q⟩:=(any_eq_true _ _).mp q;obtain⟨⟨⟨nm,bs,mro,ns,Q,hd,sn,sub,ab,col,del⟩,i⟩,-,q⟩:=(any_eq_true _ _).mp q;simp only[aq,au]at q;obtain⟨⟨⟨⟨⟨⟨g,f⟩,d⟩,c⟩,a⟩,e⟩,E⟩:=q;cases i;cases g;cases c;exact⟨mro.tail,ns,nm,Q,bs,hd,sn,sub,ab,col,dd,_,_,_,_,_,_,X _ _ (by rw[H,f,d];rfl),.of_isNs (PySem.W.isNs_of_in X e),PySem.W.nsMap_none_of_in X e E,PySem.W.tail_of_in X a⟩
noncomputable def kg (x:Str)(M:Ea):Ex:=λρ A=>(M ρ A).bind λ_ A1=>.exc x A1
section
variable {g:Heap}{np:Pos}{B newId initId:String}{bmB:a7}
def Nb {h':Heap}{e:Addr}{vs:a7}(x:jO X g xr)(I:Inv X pins σ H s)(m:Heap.MadeExcOf s.heap h' e (.ref C) vs):
  Inv X pins σ H { s with heap:=h' }/\j6 H h' g e (.ref C):=by
 have N:∀b,s.heap.get? b=none->H b=none:=λb z=>by
  cases q:H b with
  |none=>rfl|some u=>obtain⟨o,k⟩:=(I.hok b u q).obj;rw[z]at k;cases k
 have n:∀b,s.heap.get? b=none->g.get? b=none:=λb z=>by
  cases q:g.get? b with
  |none=>rfl|some o=>obtain⟨o',k⟩:=x.th pins σ H s I b o q;rw[z]at k;cases k
 obtain⟨t,he,a,h⟩:=m.there;refine⟨I.call' (s':={ s with heap:=h' }) (ch:=[]) rfl ⟨λb o q _ _ _=>m.keeps b o q,λb o q _ _ _=>⟨o.slots,m.keeps b o q⟩,λb o q z _=>z,λb o q _=>⟨o,m.keeps b o q⟩,λ_ _ q=>q,λ_ _ _ q=>q,λb p q=>⟨#[],by rw[Array.append_empty];exact q⟩⟩
  (λb u q=>(I.hok b u q).stay (λc v _ z=>m.keeps c v z) (λ_ z=>z) λ_ _ z=>z) I.bare (λb z=>absurd z (by simp)),?_⟩
 exact⟨n e m.new,N e m.new,_,_,_,he,rfl,rfl,rfl,.inl rfl⟩
def Ol (o:jO X g xr)(f:qZ X.K x (.ref C))(ex:yB X.K C bmB newId=true)(FB:ExcBaseFacts B newId initId bmB)(v:SA X xr (e::es) mr)(p:jV mr n)(hn:n<=sizeLine:=by decide)(u:Gl X x:=by rfl)(a:X.calm=true:=by rfl)
  (d:(x==("__debug__":Str))=false:=by decide)(he:starEach (e::es) X.env=(false,eval e X.env)::starEach es X.env:=by rfl)(l:(backTo cpos (starEach es X.env)).any (·.1)=false:=by rfl):
  SS X xr (.Raise (some (.Call (.Name x np) (e::es) [] cpos)) none pos) (kg x mr):=by
 intro pins s σ H D I ⟨φ,A,ρ,S,re,h⟩;have hm:X.mg x=some (.ref C):=aG I.mod.kin I.mod.glob f;obtain⟨t,N,nm,q,bs,hdct,sn,sub,ab,col,dd,k0,k1,k2,k3,k5,mN,z,w,c,T⟩:=YW I.mod.kin ex;refine wpAny_Raise_call_subT (C:=C) (nm:=nm) (q:=q) (N:=N) (bs:=bs) (bm:=t) (hdct:=hdct) (sn:=sn) (sub:=sub) (ab:=ab) (col:=col) (dd:=dd) (k0:=k0) (k1:=k1) (k2:=k2) (k3:=k3) (k5:=k5)
  FB (mN:=mN) (T.hasType FB.hasBase) (I.ok.hd a) (by rw[he];show(false || (backTo cpos (starEach es X.env)).any (·.1))=false;rw[l];rfl) c (gm I u hm ⟨rfl,?_⟩ d)
 have h':=zC.mp h;have j:=v cpos pins s σ H (λvs H1=>vs.length<=sizeLine/\xr x H1) I ⟨φ,A,ρ,S,re,?_⟩
 ·rw[he]at j ⊢
  refine Calls.evalArgs_plain (wpAny_mono j (λus s2 J=>?_) λ_ _ y=>y);obtain⟨vs,Y,i,r,hlen,k⟩:=J;refine⟨rfl,?_,i.bk _ _ z,w.keeps i.bk,T.keeps i.bk,λZ M m=>?_⟩
  ·rw[<- r.length];exact hlen
  ·obtain⟨U,L⟩:=Nb o i m
   exact o.out pins σ Y _ M C x U L f k
 ·cases E:mr ρ A with
  |ok ws A1=>
   rw[E]at h';intro b H1 vs l1 P Q;refine⟨?_,h' b H1 l1 P⟩;rw[<- Q.length,p ρ A ws A1 E];exact hn
  |exc y A1=>rw[E]at h';exact h'|bad=>rw[E]at h';exact h'
end
noncomputable def mJ:List Ev->Str->Ev
 |[],acc=>λ_ A=>.ok (.str acc) A|m::ms,acc=>λρ A=>(m ρ A).bind λw A1=>match w with
  |.str y=>if (acc++y).length<=sizeLine then mJ ms (acc++y) ρ A1 else .bad|_=>.bad
section
variable {m:Ev}{ms:List Ev}
inductive SJ (X:Cx)(xr:XR):List Expr->List Ev->Prop where
 |nil:SJ X xr [] []
 |cons {e:Expr} {es:bf} {m:Ev} {ms:List Ev} (h:SE X xr e m) (r:SJ X xr es ms):SJ X xr (e::es) (m::ms)
end
section
variable {A:Around}{e:Addr}{oe:Obj}{bmB bmD:a7}{newId newD:String}{Q:Bool->Shared->Prop}
def Xi (h:Heap)(C D:Addr):Prop:=∃o cd,h.get? C=some o/\o.data=.cls cd/\cd.mro.contains (.ref D)=true
def SD (lc:YU C bmB newId s.heap)(ld:YU D bmD newD s.heap)(j:bmD.contains (.type "BaseException")=true)(he:s.heap.get? e=some oe)(a:oe.cls=.ref C)(up:Xi s.heap C D)(v:Q true s):
  wpAny M A (excMatches (.ref e) (.ref D)) Q E s:=by
 obtain⟨h,g,d,t,os⟩:=s;obtain⟨l,N,nm,q,bs,hdct,sn,sub,ab,col,dd,k0,k1,k2,k3,k5,mN,k,_,_,_⟩:=lc;obtain⟨T,P,r,I,x,c,p,S,y,o,w,K,l1,l2,l3,L,u,n,_,_,z⟩:=ld;obtain⟨J,cd,b,hd,hm⟩:=up;rw[k]at b;cases b;have H:(excClassObj nm q C N bs l hdct sn sub ab col dd k0 k1 k2 k3 k5 newId).data=.cls cd:=hd;unfold excClassObj at H;cases H;have B:(Value.ref D::T).contains (.type "BaseException")=true:=by rw[List.contains_cons,z.hasType j,Bool.or_true]
 have i:(Value.ref C::l).contains (.ref D)=true:=hm;have f:=tc_notTuple;unfold excMatches
 repeat (first|(with_reducible refine wpAny_loadPart_at he ?_;rw[a])|with_reducible refine wpAny_loadPart_at n ?_|with_reducible refine wpAny_loadPart_at k ?_|(with_reducible refine wpAny_isSubtype_exc n ?_;rw[B])|(with_reducible refine wpAny_isSubtype_exc k ?_;rw[i])|wp_step)
 exact v
end
section
variable {H0:Hp}{s0:Shared}{ea:Addr}
def landed {h':Heap}{T:Addr}{a0:Value}(g:Inv X pins σ H0 s0)(I:Inv X pins σ H s)(x:j6 H s.heap s0.heap ea (.ref C))(nT:s0.heap.get? T=none)(hT:H T=none)
  (th:∀b o,s0.heap.get? b=some o->∃o',s.heap.get? b=some o')
  (fl:Heap.FlyingW (hideAll s.heap (ea::T::zK X.stack)) X.stack ea (.ref C) a0 h')(us:s.heap.UpToSlots h'):
  Inv X pins σ H { s with heap:=h' }/\j6 H h' s0.heap ea (.ref C)/\Tr h' ea/\∀b o,s0.heap.get? b=some o->∃o',h'.get? b=some o':=by
 obtain⟨st,_,ff,oe,vs,t,oT,U,he,⟨B,h0⟩,hd,h1,w,D,E,A,h3⟩:=fl;have ng:s0.heap.get? ea=none:=by cases x;assumption
 have nH:H ea=none:=by cases x;assumption
 have kept:∀b o,s.heap.get? b=some o->b∉zK X.stack->b≠ea->b≠T->h'.get? b=some o:=λb o q l j N=>st b o (a4 _ q λhm=>by
  rcases bz.mp hm with z|hm
  ·exact j z
  rcases bz.mp hm with z|hm
  ·exact N z
  ·exact l hm)
 have slot:∀b o,s.heap.get? b=some o->b∈zK X.stack->∃S,h'.get? b=some { o with slots:=S }:=λb o q hm=>by
  obtain⟨_,o',h,f⟩:=I.stack.mem hm;rw[q]at h;cases h;exact us b o q f
 have off:∀b u,H b=some u->b∉zK X.stack/\b≠ea/\b≠T:=λb u q=>⟨λhm=>(by rw[I.stkFree b hm]at q;cases q),λz=>(by rw[z,nH]at q;cases q),λz=>(by rw[z,hT]at q;cases q)⟩
 have ne:∀b o,s0.heap.get? b=some o->b≠ea/\b≠T:=λb o q=>⟨λz=>(by rw[z,ng]at q;cases q),λz=>(by rw[z,nT]at q;cases q)⟩
 have any:∀b o o',s0.heap.get? b=some o'->s.heap.get? b=some o->∃S,h'.get? b=some { o with slots:=S }:=λb o o' Q q=>by
  by_cases hm:b∈zK X.stack
  ·exact slot b o q hm
  ·exact⟨o.slots,kept b o q hm (ne b o' Q).1 (ne b o' Q).2⟩
 have cell:∀y c,X.env.cells.lookup y=some c->∀v,s.heap.IsCell c v->h'.IsCell c v:=λy c e v ⟨o,M,hd⟩=>by
  obtain⟨_,o0,d,_⟩:=g.cell y c e;obtain⟨S,z⟩:=any c o o0 d M;exact⟨_,z,hd⟩
 have inv:Inv X pins σ H { s with heap:=h' }:=by
  refine⟨I.ok,I.os,I.bare,⟨λb o q n L nx=>?_,λb o q n hf nx=>?_,I.base.free,λb o q nx=>?_,I.base.tups,I.base.frzs,I.base.tbls⟩,?_,λy c e=>?_,I.free,I.freeC,λp hp=>?_,λb u q=>?_,I.len⟩
  ·have a:=I.base.keep b o q n L nx
   have Q:=g.base.keep b o q n L nx;refine kept b o a (λhm=>?_) (ne b o Q).1 (ne b o Q).2;rcases bz.mp (I.stkSub b hm) with z|z
   ·exact absurd (ar (aw q) I.ok.above) (by rw[z];exact aB _)
   ·exact L z
  ·obtain⟨S,a⟩:=I.base.slot b o q n hf nx
   obtain⟨sl0,Q⟩:=g.base.slot b o q n hf nx;obtain⟨J,z⟩:=any b _ _ Q a;exact⟨J,z⟩
  ·obtain⟨K,a⟩:=I.base.there b o q nx
   obtain⟨o0,Q⟩:=g.base.there b o q nx;obtain⟨S,z⟩:=any b K o0 Q a;exact⟨_,z⟩
  ·obtain⟨m,⟨o,es,ep,M,r⟩,k⟩:=I.loc
   obtain⟨_,⟨o0,_,_,d,_⟩,_⟩:=g.loc;obtain⟨S,z⟩:=any _ o o0 d M;refine⟨m,⟨_,es,ep,z,r⟩,λi y v e1 e2 e3=>?_⟩;obtain⟨u,ru,lk⟩:=k i y v e1 e2 e3;refine⟨u,ru,?_⟩;rcases lk with lk|⟨lk,c,ec,P⟩
   ·exact .inl lk
   ·exact .inr ⟨lk,c,ec,cell y c ec _ P⟩
  ·obtain⟨v,hv⟩:=I.cell y c e
   exact⟨v,cell y c e v hv⟩
  ·obtain⟨p1,p2,Z,Y,p5⟩:=I.pin p hp
   have p0:=(g.pin p hp).1;refine⟨kept _ _ p1 (λhm=>?_) (ne _ _ p0).1 (ne _ _ p0).2,p2,Z,Y,p5⟩;rcases bz.mp (I.stkSub _ hm) with z|z
   ·exact Z z
   ·exact Y z
  ·refine(I.hok b u q).stay (λc v P z=>?_) (λ_ z=>z) λ_ _ z=>z
   rcases P with e|e
   ·obtain⟨l,j,N⟩:=off b u q
    rw[e]at z ⊢;exact kept b v z l j N
   ·obtain⟨l,j,N⟩:=off c _ e
    exact kept c v z l j N
 have both:s0.heap.get? t=none/\H t=none:=by
  cases q:s.heap.get? t with
  |some o=>
   by_cases hm:t∈ea::T::zK X.stack
   ·rcases bz.mp hm with z|hm
    ·exact absurd z D
    rcases bz.mp hm with z|hm
    ·rw[z];exact⟨nT,hT⟩
    ·obtain⟨S,z⟩:=slot t o q hm
     obtain⟨_,o',h,f⟩:=I.stack.mem hm;rw[q]at h;cases h;rw[E]at z;cases z;exact absurd A (f U)
   ·rw[a4 _ q hm]at w;cases w
  |none=>
   constructor
   ·cases z:s0.heap.get? t with
    |none=>rfl|some o=>obtain⟨o',k⟩:=th t o z;rw[q]at k;cases k
   ·cases z:H t with
    |none=>rfl|some u=>obtain⟨o',k⟩:=(I.hok t u z).obj;rw[q]at k;cases k
 exact⟨inv,⟨ng,nH,oe,vs,a0,he,B,hd,h0,.inr ⟨t,oT,U,h1,D,both.1,both.2,E,A,h3⟩⟩,⟨oe,vs,t,he,hd,h1⟩,λb o q=>by
  obtain⟨K,a⟩:=th b o q;obtain⟨S,z⟩:=any b K o q a;exact⟨_,z⟩⟩
def flying (I:Inv X pins σ H s)(x:j6 H s.heap s0.heap ea (.ref C))(tr:Tr s.heap ea):
  ∃T A,s0.heap.get? T=none/\H T=none/\Heap.FlyingW (hideAll s.heap (ea::T::zK X.stack)) X.stack ea (.ref C) A s.heap:=by
 obtain⟨u,w,l,vs,A,he,p,hd,h0,d⟩:=x;obtain⟨k,v,y,h,a,c⟩:=tr;rw[he]at h;cases h;rw[hd]at a;cases a;rcases d with d|⟨T,n,t,d,i,e,j,hT,f,r⟩
 ·rw[d]at c;cases c
 ·have hn:∀b∈ea::T::zK X.stack,(hideAll s.heap (ea::T::zK X.stack)).get? b=none:=λb g=>hideAll_none _ g
  exact⟨T,A,e,j,λb o q=>of_hideAll _ q,hn ea (aA ..),frames_at I.stack λb g=>hn b (av _ (av _ g)),
   l,vs,T,n,t,he,⟨p,h0⟩,hd,d,hn T (av _ (aA ..)),i,hT,f,r⟩
end
noncomputable def ZA (o:Obj):HO:=.frz o (.own 0)
noncomputable def wL (K:Frag)(C D:Addr):Bool:=match K.lookup C with
 |some ⟨_,_,.cls cd,_⟩=>cd.mro.contains (.ref D)|_=>false
def IG {K:Frag}(X:K.In h)(e:wL K C D=true):Xi h C D:=by
 unfold wL at e
 split at e
 ·rename_i H
  exact⟨_,_,X _ _ H,rfl,e⟩
 ·cases e
section
variable {H0:Hp}{s0:Shared}{ea L:Addr}
def gy (i:Inv X pins σ H0 s0)(I:Inv X pins σ H s)(x:j6 H s.heap s0.heap ea (.ref C)):∃a,a.cls=.ref C/\H ea=none/\Inv X pins σ (upd H ea (ZA a)) s:=by
 obtain⟨l,d,a,vs,A,he,r,_⟩:=x;refine⟨a,r,d,?_⟩;have ne:∀b o,s0.heap.get? b=some o->b≠ea:=λb o q z=>by rw[z,l]at q;cases q
 have at_:∀b,b≠ea->upd H ea (ZA a) b=H b:=λb n=>by unfold upd;exact ag n
 have N:∀b u,H b=some u->upd H ea (ZA a) b=some u:=λb u q=>by
  rw[at_ b λz=>by rw[z,d]at q;cases q];exact q
 refine⟨I.ok,I.os,I.bare,⟨I.base.keep,I.base.slot,λb o q n nx=>?_,I.base.there,λb xs q=>N _ _ (I.base.tups b xs q),λb o u q=>N _ _ (I.base.frzs b o u q),λb P q=>?_⟩,I.loc,I.cell,?_,λy c e=>?_,λp f=>?_,λb u q=>?_,I.len⟩
 ·obtain⟨o0,Q⟩:=i.base.there b o q nx
  rw[at_ b (ne b o0 Q)];exact I.base.free b o q n nx
 ·obtain⟨more,z⟩:=I.base.tbls b P q
  exact⟨more,N _ _ z⟩
 ·obtain⟨m,⟨o0,_,_,h,_⟩,_⟩:=i.loc
  rw[at_ _ (ne _ o0 h)];exact I.free
 ·obtain⟨v,o0,h,_⟩:=i.cell y c e
  rw[at_ _ (ne _ o0 h)];exact I.freeC y c e
 ·obtain⟨k,j,g⟩:=I.pin p f
  refine⟨k,?_,g⟩;rw[at_ _ (ne _ _ (i.pin p f).1)];exact j
 ·by_cases z:b=ea
  ·subst z
   have:u=ZA a:=by
    unfold upd at q;rw[af rfl]at q;exact(aj q).symm
   subst this;exact⟨he,⟨a,he⟩⟩
  ·rw[at_ b z]at q
   exact(I.hok b u q).stay (λ_ _ _ z=>z) (λc z=>N c _ z) λc xs z=>N c _ z
def Lr (X:Cx)(pins:a9)(σ:St)(s0:Shared)(D:Addr)(k:Addr->Addr->Hp->Prop)(e:Value)(s:Shared):Prop:=
 ∃E C H B n,e=.ref E/\Inv X pins σ H s/\j6 H s.heap s0.heap E (.ref C)/\Tr s.heap E/\(∀b o,s0.heap.get? b=some o->∃o',s.heap.get? b=some o')/\Mi.yB X.K C B n=true/\wL X.K C D=true/\∀a,a.cls=.ref C->H E=none->k E C (upd H E (ZA a))
def NQ {l n:Str}{p:a7}{newD:String}{body S:br}{B:Stmt}{np hp:Pos}{Q:Flow->Shared->Prop}{k:Addr->Addr->Hp->Prop}
  (I0:Inv X pins σ H0 s0)(t:X.stack=X.env::X.outer)(hL:X.env.frame=some L)(hD:qZ X.K l (.ref D))(exD:Mi.yB X.K D p newD=true)(hbD:p.contains (.type "BaseException")=true)
  (hN:X.N.Nodup)(hi:X.N[i]? =some n)(hx:Loc X.env.scope n)
  (y:wpAny (model X.prog X.w) X.A (execs body X.env) (λf s1=>f=.next/\Q .next s1) (Lr X pins σ s0 D k) s0)
  (b:∀E C H s2,Inv X pins (σ.set i (some (.ref E))) H s2->k E C H->∀E',wpAny (model X.prog X.w) (X.A.mark (some (.ref E))) (execs (B::S) X.env)
   (λf s4=>wpAny (model X.prog X.w) X.A (do bindName X.env n .none;unbindBehindTheSuite X.env n hp) (λ_ s5=>Q f s5) X.xe s4) E' s2)
  (hg:Gl X l)(hdb:(l==("__debug__":Str))=false:=by decide)(hf:X.fn n=true∨X.env.scope.names.lookup n=some .local:=by first|exact .inl rfl|exact .inr rfl|assumption):
  wpAny (model X.prog X.w) X.A (exec (.Try body [.ExceptHandler (some (.Name l np)) (some n) (B::S) hp] [] [] pos) X.env) Q X.xe s0:=by
 refine wpAny_Try_except (wpAny_mono y (λf s1 ⟨ef,q⟩=>?_) λe s1 h=>?_)
 ·subst ef
  exact wpAny_execs_nil q
 obtain⟨E,C,H,bmC,newC,rfl,I,x,tr,th,exC,up,hk⟩:=h;have hm:X.mg l=some (.ref D):=aG I.mod.kin I.mod.glob hD;obtain⟨T,a0,nT,hT,fl⟩:=flying I x tr;have Z:X.A.frames=some (X.env::X.outer):=by rw[<- t];exact I.ok.frames
 refine wpAny_looks_onW Z hL (by rw[<- t];exact fl) λh₄ g d=>?_
 refine wpAny_landsW g λo a U=>?_;obtain⟨c,r,z,J⟩:=landed I0 I x nT hT th (by rw[<- t]at a;exact a) (d.trans U)
 obtain⟨_,_,oe,_,_,he,hc,_⟩:=id r;refine wpAny_handleBy_cons (codeAny_handlers_test (Calls.Name_function_global c.ok.kind hg (Calls.loadGlobal_global (by rw[c.ok.glob];exact c.mod.glob.keeps c.bk) hm ?_) hdb)) (by intro q;cases q)
 refine SD (s:={ s1 with heap:=o }) (YW c.kIn exC) (YW c.kIn exD) hbD he hc (IG c.kIn up) ?_
 refine codeAny_handlers_suite_as ?_;obtain⟨T',a0',P,hT',fl'⟩:=flying c r z;refine lands_againW fl' λh₆ j u=>?_;obtain⟨I6,x6,_,_⟩:=landed I0 c r P hT' J j u;obtain⟨of,Y,M,I7⟩:=gy I0 I6 x6;exact Qc (v:=.ref E) I7 hN hi hx rfl (λs7 I7=>b E C _ s7 I7 (hk of Y M) _) hf
end
section
variable {A:Around}
def name_goes {n:Str}{Q:Unit->Shared->Prop}(I:Inv X pins σ H s)(hN:X.N.Nodup)(D:X.N[i]? =some n)(Z:X.env.scope.names.lookup n=some .local)
  (h:∀s',Inv X pins (σ.set i none) H s'->Q () s'):wpAny M A (do bindName X.env n .none;unbindBehindTheSuite X.env n pos) Q E s:=by
 obtain⟨m,hn,Y⟩:=id I.loc;have f:i < σ.length:=by rw[I.len];exact(bx.mp D).1
 refine wpAny_nameGoes_keeps Z hn (by rw[I.ok.kind];rfl) λh' v w t=>h _ ?_
 have old:∀b o,b≠X.env.locals->s.heap.get? b=some o->h'.get? b=some o:=λb o n q=>(t.2 b n).trans q;have nl:∀{b:Addr}{u:HO},H b=some u->b≠X.env.locals:=λq z=>by rw[z,I.free]at q;cases q
 have ab:∀{b:Addr}{k:Nat},b<k->k<=X.env.locals->b≠X.env.locals:=λl g=>az (ar l g);refine⟨I.ok,I.os,I.bare,⟨λb o e z C x=>?_,λb o e z C x=>?_,I.base.free,λb o e x=>?_,I.base.tups,I.base.frzs,I.base.tbls⟩,⟨_,w,λj y K a r e3=>?_⟩,λy c e=>?_,I.free,I.freeC,λp T=>?_,λb u q=>?_,by simpa using I.len⟩
 ·exact old b o (ab (aw e) I.ok.above) (I.base.keep b o e z C x)
 ·obtain⟨S,a⟩:=I.base.slot b o e z C x
  exact⟨S,old b _ (ab (aw e) I.ok.above) a⟩
 ·obtain⟨o',a⟩:=I.base.there b o e x
  exact⟨o',old b _ (ab (aw e) I.ok.above) a⟩
 ·by_cases B:j=i
  ·subst B
   rw[aF f]at r;cases r
  ·rw[aH (Ne.symm B)]at r
   obtain⟨U,L,q⟩:=Y j y K a r e3;refine⟨U,L,?_⟩;rcases q with ⟨k,e⟩|⟨k,c,e,z⟩
   ·have:y≠n:=λe=>B (J5 hN a (e ▸ D))
    exact .inl ⟨k,by simp[this,e]⟩
   ·exact .inr ⟨k,c,e,z.sameBut t (I.cne y c e)⟩
 ·obtain⟨J,z⟩:=I.cell y c e
  exact⟨J,z.sameBut t (I.cne y c e)⟩
 ·obtain⟨e,z,ne,P,d⟩:=I.pin p T
  exact⟨old _ _ ne e,z,ne,P,d⟩
 ·refine(I.hok b u q).stay (λc v hc z=>old c v ?_ z) (λ_ z=>z) λ_ _ z=>z
  rcases hc with e|e
  ·rw[e];exact nl q
  ·exact nl e
def Sa {n y:Str}{E:Addr}{np Y ap p:Pos}{Q:Flow->Shared->Prop}{B:bc}(I:Inv X pins (σ.set i (some (.ref E))) H s)(d:X.N.Nodup)(b:X.N[i]? =some n)(x:X.N[j]? =some y)
  (h:X.env.scope.names.lookup n=some .local)(g:Loc X.env.scope y)(q:∀s',Inv X pins (((σ.set i (some (.ref E))).set j (some (.ref E))).set i none) H s'->Q .next s')
  (o:swapsWith (.Name n np) (some (.Name y Y)) ap.line X.env=pure false)(hf:X.fn y=true∨X.env.scope.names.lookup y=some .local)
  (c:(n==("__debug__":Str))=false:=by decide):
  wpAny (model X.prog X.w) A (execs [.Assign [.Name y Y] (.Name n np) ap] X.env) (λf s4=>wpAny (model X.prog X.w) X.A (do bindName X.env n .none;unbindBehindTheSuite X.env n p) (λ_ s5=>Q f s5) X.xe s4) B s:=by
 obtain⟨m,hn,t⟩:=I.loc;have a:i < σ.length:=by have:=I.len;rw[List.length_set]at this;rw[this];exact(bx.mp b).1
 obtain⟨u,r,l⟩:=t i n (.ref E) b (aF a) (.inl h);obtain rfl:u=Value.ref E:=r;have hm:m n=some (.ref E):=by
  rcases l with ⟨_,e⟩|⟨k|k,_⟩
  ·exact e
  ·rw[show X.env.kindOf n=some .local from h]at k;cases k
  ·rw[show X.env.kindOf n=some .local from h]at k;cases k
 refine wpAny_execs_cons (wpAny_Assign_Name (wpAny_Name (wpAny_loadName_local I.ok.kind h hn hm ?_) c) o);exact Qc (v:=.ref E) I d x g rfl (λs5 z=>wpAny_execs_nil (name_goes z d b h q)) hf
end
open PySem PySem.W PySem.Spec PySem.Calls PyProof.Rows Builtin Builtin.ObjectAttr Builtin.Getset_descriptor
section
variable {prog:Program}{A:Around}{K:Frag}{x:Addr}{name:Str}
def NT {a g:Value}(X:K.In h)(b:findIn K (.ref D) name=some (some a))(hn:specialIn K a "__get__"=some (some g))(H:takesIn K a=some true):Looks M h (find (.ref x) (.ref D) name) (.bind g a):=
 (looks_findIn (M:=M) X b).andThen ((show Looks M h (getOf (some a)) (some g) from looks_specialIn X hn).andThen
  ((show Looks M h (dataDescriptor? (some a) (some g)) (some (g,a)) from (looks_takesIn (M:=M) X H).andThen .now).andThen (Looks.tag .now)))
def OC {tp:Value}{R:Result->Shared->Prop}(X:K.In s.heap)(l:Looks (model prog w) s.heap (typeOf (.ref x)) (.ref D))(hm:mroIn K D (.type "object")=some true)(h:R (.ok (.ret (.ref D))) s):
  codeAny (model prog w) A (.call (.builtin "getset_descriptor.__get__") ⟨[.builtin "object.__class__",.ref x,tp],[]⟩) R s:=by
 obtain⟨h0,g,d,t0,o0⟩:=s;have L:=looks_mroIn (M:=model prog w) X hm;have S:=KF.slot_gs;refine codeAny_call_builtin S.plain KF.entry_gs (S.check _ _ _ _ _ _ _ _ KF.type_class (KF.args_gs _ _ _) ?_);unfold «getset_descriptor.__get__» descrGet;rw[dga_obj];refine bt (bw ?_);unfold descrGetter descrCheckInstance isInstance descrNameAndClass;simp only[KF.owner_class]
 repeat lk
 refine And.intro (Code.quiet_builtin _ (by decide +kernel)) (codeAny_builtin KF.entry_class ?_)
 unfold «object.__class__» shownTypeOf
 repeat lk
 exact h
def Sr {rest:a7}{Q:Unit->Shared->Prop}(X:K.In s.heap)(l:Looks M s.heap (typeOf (.ref x)) (.ref D))(hm:mroIn K D (.type "BaseException")=some true)
  (ok:argsOk "BaseException.__getattribute__" ⟨.ref x::rest,kw⟩)(h:Q () s):wpAny M A (checkBuiltinCall "BaseException.__getattribute__" ⟨.ref x::rest,kw⟩) Q E s:=by
 have cut:splitId "BaseException.__getattribute__"=some ("BaseException","__getattribute__"):=by first|rfl|decide +kernel
 have kinds:builtinKind "BaseException.__getattribute__"=some .slot∨builtinKind "BaseException.__getattribute__"=some .method:=by
  simp only[builtinKind,cut]
  first|exact .inl (by decide +kernel)|exact .inr (by decide +kernel)
 have L:=looks_mroIn (M:=M) X hm;have r:wpAny M A (match Manifest.signature? "BaseException.__getattribute__" with|some sig=>Bind.checkArgs "BaseException.__getattribute__" sig ⟨.ref x::rest,kw⟩|none=>pure ()) Q E s:=wpAny_of_eq ok h
 rcases kinds with k|k
 all_goals
  unfold checkBuiltinCall;rw[k,cut];dsimp only;unfold isInstance;refine bt (bt (l.at (L.at ?_)));exact r
def Tp {Q:Option Value->Shared->Prop}(b:findIn K (.ref D) "__getattribute__"=some (some (.builtin "BaseException.__getattribute__")))(n:findIn K (.ref D) "__getattr__"=some none)
  (e:findIn K (.ref D) "__class__"=some (some (.builtin "object.__class__")))
  (hn:specialIn K (.builtin "object.__class__") "__get__"=some (some (.builtin "getset_descriptor.__get__")))(H:takesIn K (.builtin "object.__class__")=some true)(hm:mroIn K D (.type "object")=some true)(a:mroIn K D (.type "BaseException")=some true)
  (X:K.In s.heap)(L:Looks (model prog w) s.heap (typeOf (.ref x)) (.ref D))(h:Q (some (.ref D)) { s with toks:=s.toks+1 }):wpAny (model prog w) A (getAttr? (.ref x) "__class__") Q E s:=by
 obtain⟨c,g,d,t,os⟩:=s;have l:=looks_findIn (M:=model prog w) X b;have L2:=NT (M:=model prog w) (x:=x) X e hn H;have f:=looks_findIn (M:=model prog w) X n;unfold getAttr?;unfold getAttrBy?;unfold getAttrBy;refine bt (wpAny_mkText (bt (wpAny_attempt (wpAny_holding (bt (L.at (bt (l.at ?_))))))));show wpAny _ _ (getAttrByItsOwn (.ref x) (.str "__class__" t) (.ref D) (.builtin "BaseException.__getattribute__") false false) _ _ _;unfold getAttrByItsOwn;refine bt ?_;show wpAny _ _ (typeLookup (.ref D) "__getattr__") _ _ _;refine f.at (bt (wpAny_attempt (wpAny_holding ?_)));show wpAny _ _ (bindSpecial (.builtin "BaseException.__getattribute__") (.ref x) >>= _) _ _ _;refine bt (wpAny_of_eq (F.excAttr_ValueError.ga.bind _) ?_);refine wpAny_call (codeAny_call_builtin F.excAttr_ValueError.ga.plain F.entry_bexc_ga (Sr X L a (F.args_bexc_ga _ _) ?_));unfold «object.__getattribute__»;refine bt (wpAny_of_eq (show slotArgs "__getattribute__" 1 ⟨[.ref x]++[.str "__class__" t],[]⟩=pure (.ref x,[.str "__class__" t]) from rfl) ?_)
 refine bt (wpAny_of_eq (show attrName (.str "__class__" t)=pure ("__class__":Str) from rfl) (bt (L.at (bt (L2.at ?_)))))
 show wpAny _ _ (holding [Value.builtin "object.__class__"] (call (.builtin "getset_descriptor.__get__") [.builtin "object.__class__",.ref x,.ref D]) >>= ret) _ _ _;refine bt (wpAny_holding (wpAny_call (OC (s:=⟨c,g,d,t+1,os⟩) X L hm ?_)));refine bw ?_;exact handed_on rfl (bw h)
end
def Qq (x D:Addr)(h:Heap):Prop:=∃o,h.get? x=some o/\o.cls=.ref D
def Qq.ty {x:Addr}(p:Qq x D h):Looks M h (typeOf (.ref x)) (.ref D):=by
 obtain⟨o,H,c⟩:=p;rw[<- c];exact(Looks.ld H).andThen .now
def Pj {K:Frag}{x:Addr}(d:(clsIn K D).isSome=true)(c:findIn K (.ref D) "__getattribute__"=some (some (.builtin "BaseException.__getattribute__")))(b:findIn K (.ref D) "__getattr__"=some none)(e:findIn K (.ref D) "__class__"=some (some (.builtin "object.__class__")))
  (hn:specialIn K (.builtin "object.__class__") "__get__"=some (some (.builtin "getset_descriptor.__get__")))(H:takesIn K (.builtin "object.__class__")=some true)(hm:mroIn K D (.type "object")=some true)(a:mroIn K D (.type "BaseException")=some true):
  KitX K (.ref x) (.ref D) (Qq x D) where
 ty:=λ_ _ _ p=>p.ty
 it:=λ_ _ X _=>by
  obtain⟨C,h⟩:=Option.isSome_iff_exists.mp d;unfold clsIn at h
  split at h
  ·rename_i g d' f s o
   intro A Q' E s' k q;unfold isType loadHead;exact bt (wpAny_loadPart (k _ _ (X D _ o)) (bw q))
  ·cases h
 ne:=λ_ tp dd i n S X t=>by
  obtain⟨C,h⟩:=Option.isSome_iff_exists.mp d;rw[Bool.eq_false_iff];intro q;cases Value.ref.inj (au.mp q);unfold clsIn at h
  split at h
  ·rename_i o
   cases (X _ _ o).symm.trans t
  ·cases h
 ca:=λX p k=>Tp c b e hn H hm a X p.ty k
noncomputable def Zf (K:Frag)(C:Addr):Bool:=(PySem.W.clsIn K C).isSome&&(PySem.W.findIn K (.ref C) "__getattribute__" == some (some (.builtin "BaseException.__getattribute__")))&&(PySem.W.findIn K (.ref C) "__getattr__" == some none)&&(PySem.W.findIn K (.ref C) "__class__" == some (some (.builtin "object.__class__")))&&
 (PySem.W.specialIn K (.builtin "object.__class__") "__get__" == some (some (.builtin "getset_descriptor.__get__")))&&(PySem.W.takesIn K (.builtin "object.__class__")==some true)&&(PySem.W.mroIn K C (.type "object")==some true)&&(PySem.W.mroIn K C (.type "BaseException")==some true)
section
variable {A:Around}{c:Value}{b:Bool}{ea:Addr}
def NU {o:Obj}{u:HO}(I:Inv X pins σ H s)(e:H ea=some (.frz o u))(d:o.cls=.ref C)(k:Zf X.K C=true)(q:kitOne X.K (.ref C) c=some b)(h:∀t,Q (.bool b) { s with toks:=t }):
  wpAny (model X.prog X.w) A (call (.builtin "isinstance") [.ref ea,c]) Q E s:=by
 have p:Qq ea C s.heap:=⟨o,(show qd X.prog X.w H s.heap ea (.frz o u) from I.hok ea _ e).1,d⟩
 unfold Zf at k;simp only[aq,au]at k;obtain⟨⟨⟨⟨⟨⟨⟨k1,k2⟩,a⟩,k3⟩,i⟩,k5⟩,g⟩,f⟩:=k;exact aX (Pj k1 k2 a k3 i k5 g f) I.kIn p q (λz=>nomatch z) h
def M9 (I:Inv X pins σ H s)(q:kitOne X.K (.type "NoneType") c=some b)(h:∀t,Q (.bool b) { s with toks:=t }):wpAny (model X.prog X.w) A (call (.builtin "isinstance") [.none,c]) Q E s:=
 Gh I (x:=.non) rfl .non q h
end
def y6 (P:Program)(w:World)(K:Frag)(mg:bh)(base:Heap)(N:bb)(qual:Str)(scope:Scope)(f:Addr)(cd:Value)(cl:bo)(A:Around)(outer:bj)(s:Shared)(H:Hp)(E:XK):Cx where
 prog:=P
 w:=w
 K:=K
 mg:=mg
 base:=base
 A:=A.deeper (envX qual scope s.heap.objs.size f cd cl)
 N:=N
 s0:=s
 H0:=H
 env:=envX qual scope s.heap.objs.size f cd cl
 outer:=outer
 stack:=envX qual scope s.heap.objs.size f cd cl::outer
 ex:=[]
 calm:=true
 fn:=λ_=>false
 pn:=[]
 xe:=λe s'=>wpAny (model P w) (A.deeper (envX qual scope s.heap.objs.size f cd cl)) (leaving (envX qual scope s.heap.objs.size f cd cl) e) (λ_ S=>jR P w outer H s E e S) (λa S=>jR P w outer H s E a S) s'
section
variable {K:Frag}{cd:Value}{cl:bo}{A:Around}{E:XK}
def RX {h:Hp}{a:Addr}(I:Inv (y6 P w K mg base N qual scope f cd cl A outer s H E) pins σ h s')(x:j6 h s'.heap s.heap a (.ref C))(p:E (.ref C) none h):
  (y6 P w K mg base N qual scope f cd cl A outer s H E).xe (.ref a) s':=by
 have bs:Un (zK outer) [] H h s.heap s'.heap:=I.base;have stk:∀b∈zK (envX qual scope s.heap.objs.size f cd cl::outer),h b=none:=I.stkFree;have k:s.heap.get? s.heap.objs.size=none:=Heap.get?_none_of_le (ak _);have g:(envX qual scope s.heap.objs.size f cd cl).frame=some s.heap.objs.size:=rfl;have mem:∀b,b∈zK (envX qual scope s.heap.objs.size f cd cl::outer)↔b=s.heap.objs.size∨b∈zK outer:=λb=>by
  unfold zK;rw[aQ,g];exact mem_cons
 show wpAny (model P w) (A.deeper (envX qual scope s.heap.objs.size f cd cl)) (leaving (envX qual scope s.heap.objs.size f cd cl) (.ref a)) _ _ s';refine Xn (base:=base) (L:=s.heap.objs.size) I.ok.frames rfl I.stack x (λb u e=>(I.hok b u e).obj) (λb o e=>bs.there b o e (by simp)) λh' k1 k2 X t=>?_
 have r:∀b u,h b=some u->b∉zK (envX qual scope s.heap.objs.size f cd cl::outer):=λb u e hm=>by rw[stk b hm]at e;cases e
 refine⟨a,C,h,rfl,I.os,I.bare,⟨λb o e n nb _=>?_,λb o e n M _=>?_,λb o e n d=>bs.free b o e n d,λb o e d=>?_,bs.tups,bs.frzs,bs.tbls⟩,λb u e=>?_,X,t,p⟩
 ·have i:b≠s.heap.objs.size:=λz=>by rw[z,k]at e;cases e
  exact k1 b o (bs.keep b o e n nb (by simp)) (λhm=>(mem b).mp hm |>.elim i nb) (.inl ⟨o,e⟩)
 ·obtain⟨l,q⟩:=bs.slot b o e n M (by simp)
  obtain⟨S,Q⟩:=k2 b _ q ((mem b).mpr (.inr M));exact⟨S,Q⟩
 ·obtain⟨o',q⟩:=bs.there b o e d
  by_cases hm:b∈zK (envX qual scope s.heap.objs.size f cd cl::outer)
  ·obtain⟨l,z⟩:=k2 b o' q hm;exact⟨_,z⟩
  ·exact⟨o',k1 b o' q hm (.inl ⟨o,e⟩)⟩
 ·refine(I.hok b u e).stay (λc v j q=>?_) (λ_ q=>q) λ_ _ q=>q
  rcases j with z|z
  ·rw[z]at q ⊢;exact k1 b v q (r b u e) (.inr ⟨u,e⟩)
  ·exact k1 c v q (r c _ z) (.inr ⟨_,z⟩)
def LA:jO (y6 P w K mg base N qual scope f cd cl A outer s H E) s.heap (yg K E) where
 th:=λpins σ h s' I b o e=>(show Un (zK outer) [] H h s.heap s'.heap from I.base).there b o e (by simp)
 out:=λpins σ h s' d C x I l c a=>RX I l (a C c)
structure J1 (N:bb)(sc:Scope):Prop where
 kind:sc.kind=.function
 co:sc.isCoroutine=false
 gen:sc.isGenerator=false
 nocell:∀y∈sc.names,y.2≠.cell
structure Z5 (base:Heap)(N:bb)(scope:Scope)(cl:bo)(vs:List V):Prop where
 len:vs.length=N.length
 inj:∀x y c,cl.lookup x=some c->cl.lookup y=some c->x=y
 has:∀x,scope.names.lookup x=some .free->∃c,cl.lookup x=some c
 cell:∀x c,cl.lookup x=some c->∃v,base.IsCell c v
 val:∀(i:Nat)(x:Str)(v:V),N[i]? =some x->vs[i]? =some v->∃c u,scope.names.lookup x=some .free/\cl.lookup x=some c/\base.IsCell c (some u)/\RelV v u
def OV {l:Heap}{T:Tok}(S:J1 N scope)(hd:A.handled=none)(g:kn P w K mg base A outer s H)(C:Z5 base N scope cl vs)(t:∃m,l.Ns s.heap.objs.size m)(x:∀b o,s.heap.get? b=some o->l.get? b=some o):
  Inv (y6 P w K mg base N qual scope f cd cl A outer s H E) [] (L2.start N vs) H { s with heap:=l,toks:=T }:=by
 have n:∀b:Addr,b∉(y6 P w K mg base N qual scope f cd cl A outer s H E).ex:=λb z=>absurd (show b∈([]:a8) from z) (by simp)
 have bk:∀c v,base.IsCell c v->l.IsCell c v/\H c=none:=λc v ⟨o,B,hd⟩=>⟨⟨o,x _ _ (g.bs _ _ B).1,hd⟩,(g.bs _ _ B).2⟩;obtain⟨m,hm⟩:=t;refine⟨⟨g.mod,S.kind,rfl,rfl,ak _,C.inj,λy j=>?_,λy c z _=>(nomatch z),λ_=>hd,Around.frames_deeper g.frames,.inr ⟨rfl,rfl⟩,λb z=>absurd z (n b),g.bs,g.bsz,λb _ _=>n b,λb z=>absurd z (n b),g.funs,g.frf⟩,
  rfl,g.bare,Un.kept x,⟨m,hm,λi y v l d J=>?_⟩,λy c h=>?_,g.hok.fresh (ak _),λy c h=>?_,λp D=>absurd (show p∈([]:a9) from D) (by simp),g.hok.kept x,?_⟩
 ·have j:scope.names.lookup y=some .cell∨scope.names.lookup y=some .free:=j
  rcases j with j|j
  ·exact absurd rfl (S.nocell _ (PySem.mem_of_lookup j))
  ·exact C.has y j
 ·have q:i<vs.length:=by
   unfold L2.start at d
   by_cases q:i<vs.length
   ·exact q
   ·rw[ai (by simpa using q)]at d
    rw[aS]at d
    split at d<;>cases d
  have I:vs[i]? =some v:=by
   unfold L2.start at d;rw[ae (by simpa using q),aK]at d
   cases e:vs[i]? with
   |none=>rw[e]at d;cases d|some a=>rw[e]at d;cases d;rfl
  obtain⟨c,u,k,e,z,r⟩:=C.val i y v l I;exact⟨u,r,.inr ⟨.inr k,c,e,(bk _ _ z).1⟩⟩
 ·obtain⟨v,z⟩:=C.cell y c h
  exact⟨v,(bk _ _ z).1⟩
 ·obtain⟨v,z⟩:=C.cell y c h
  exact(bk _ _ z).2
 ·unfold L2.start
  show _=N.length;rw[aE,aL,aZ,C.len];omega
def Xu (o:Obj)(q:Str):Prop:=∃vs t,o.data=.fields vs/\vs[1]? =some (.str q t)
def MK {name:Str}{params:Arguments}{body:Expr}{pm ctv:Value}{i:Obj}{u uc:HO}{m:Ev}(S:J1 N scope)(C:Z5 base N scope cl vs)(p:Xu i qual)
  (g:∀(A:Around)(outer:bj)(s:Shared)(H:Hp)(E:XK),zW k (A.deeper (envX qual scope s.heap.objs.size a (.ref c) cl))->jO (y6 P w K mg base N qual scope a (.ref c) cl A outer s H E) s.heap (yg K E)->
   SE (y6 P w K mg base N qual scope a (.ref c) cl A outer s H E) (yg K E) body m):
  qA P w K mg base (jR P w) (k+1) a (kla_fn name qual params body scope cl pm (.ref c) ctv) [] (λus H Q E=>us=[]/\H a=some (.frz (kla_obj name qual params body scope cl pm c ctv) u)/\H c=some (.frz i uc)/\
   ∃φ A ws,zu K φ A H/\zo K φ H ws vs/\(m (ws.map some) A).post (PB K φ H Q) (EB K φ H (yg K E))):=by
 refine⟨λus H Q E h=>by rw[h.1];rfl,λA outer s H args us D Q E n l hb r h=>?_⟩
 obtain⟨rfl,h1,h2,φ,A1,ws,Sm,B,Z⟩:=h;cases r;have ho:s.heap.get? a=some (kla_obj name qual params body scope cl pm c ctv):=(show qd P w H s.heap a (.frz _ u) from l.hok a _ h1).1
 have hc:s.heap.get? c=some i:=(show qd P w H s.heap c (.frz i uc) from l.hok c _ h2).1
 have lim:s.heap.NoLimit:=l.mod.nolimit.keeps λb o e=>(l.bs b o e).1;obtain⟨L,M,z,hd2⟩:=p;refine PySem.W.kla_callFunE n.depth ho rfl S.co S.gen rfl ⟨c,i,L,M,rfl,hc,z,hd2⟩ (hb _ _ _ _ ?_);refine wpAny_newFunctionEnv S.nocell (λy X=>absurd (show y∈([]:List (Str×Value)) from X) (by simp)) (λd t j=>⟨lim.fresh _ j,?_⟩) S.kind
 show codeAny _ _ (.expr body (envX qual scope s.heap.objs.size a (.ref c) cl)) _ _;have f:∀b o,s.heap.get? b=some o->d.get? b=some o:=λb o e=>j.extBut b o (az (aw e)) (aa _ e);have I:∀T,Inv (y6 P w K mg base N qual scope a (.ref c) cl A outer s H E) [] (L2.start N vs) H { s with heap:=d,toks:=T }:=λT=>OV S n.hd l C ⟨_,t⟩ f
 refine PySem.W.kla_codeExpr (wpAny_mono (g A outer s H E (n.deeper _) LA [] _ (L2.start N vs) H Q (I _) ⟨φ,A1,_,Sm,RE.start (N:=N) B,?_⟩) (λv s' Y=>?_) λ_ _ y=>y)
 ·have:N.length-ws.length=0:=by rw[B.length,C.len];omega
  rw[this,List.replicate_zero,aT];exact Z
 ·obtain⟨x,H',J,U,q⟩:=Y
  exact⟨x,H',J.os,J.bare,J.base,J.hok,U,q⟩
end
inductive LU (K:Frag)(a:Addr)(ob:Obj)(u:HO)(c:Addr)(oc:Obj)(uc:HO)(vs:List V)(g:Fn)(us:List V)(H:Hp)(Q:VK)(E:XK):Prop
 |mk (e:us=[]) (h1:H a=some (.frz ob u)) (h2:H c=some (.frz oc uc)) (φ:a8) (A:Hx) (ws:List W) (S:zu K φ A H) (r:zo K φ H ws vs) (q:(g ws A).post (PB K φ H Q) (EB K φ H (yg K E)))
def wG (P:Program)(w:World)(K:Frag)(mg:bh)(base:Heap)(j:Nat)(p:Obj->Addr->Obj->List V->Prop)(g:Fn):Prop:=
 ∀a ob u c o uc vs,p ob c o vs->(∃fd,ob.data=.func fd)/\∃fd,qA P w K mg base (jR P w) j a fd [] (LU K a ob u c o uc vs g)/\∀s,BindsTo s fd ⟨[],[]⟩ []
open Classical in
noncomputable def QU (i:Nat)(PG:Nat->Obj->Addr->Obj->List V->Prop)(lam:Nat->Fn):Ev:=λρ A=>match ρ[i]? with
 |some (some (.clo k ws P))=>if P=PG k then lam k ws A else .bad|_=>.bad
def ZC (i j l:Nat)(cs:bb)(PG:Nat->Obj->Addr->Obj->List V->Prop)(lam:Nat->Fn):Ex:=λρ A=>match QU i PG lam ρ A with
 |.ok _ A1=>.ok (.nx ρ) A1|.exc x A1=>if cs.contains x then .ok (.nx (((ρ.set l (some (.xc x))).set j (some (.xc x))).set l none)) A1 else .bad|.bad=>.bad
section
variable {K:Frag}
def RE.unset (r:RE K φ H ρ σ):RE K φ H (ρ.set i none) (σ.set i none):=
 ⟨by simp[r.len],λj u e=>by
  by_cases h:i=j
  ·subst h
   have a:i < ρ.length:=by
    have:=(bx.mp e).1
    simpa using this
   rw[aF a]at e;cases e
  ·rw[aH h]at e
   obtain⟨x,c,b⟩:=r.get j u e;exact⟨x,by rw[aH h];exact c,b⟩⟩
end
def X2 (K:Frag)(φ:a8)(H:Hp)(ρ:En)(j l:Nat)(D:Ends)(x:Str)(A:Hx):Prop:=∀a h b,Le K φ H a h->zu K a A h->RE K a h (((ρ.set l (some (.xc x))).set j (some (.xc x))).set l none) b->D.nx b h
inductive Hl (K:Frag)(φ:a8)(H:Hp)(ρ:En)(j l:Nat)(D0:Ends)(ea C:Addr)(H':Hp):Prop
 |mk (xn:Str) (φ':a8) (A':Hx) (le:Le K φ H φ' H') (S:zu K φ' A' H') (rv:RV K φ' H' (.xc xn) (.ref ea)) (n:X2 K φ H ρ j l D0 xn A')
inductive Hu (K:Frag)(φ:a8)(H:Hp)(ρ:En)(j l:Nat)(D0:Ends)(cs:bb)(Cv:Value)(d:bq)(H1:Hp):Prop
 |mk (xn:Str) (Ca:Addr) (e:Cv=.ref Ca) (hC:qZ K xn (.ref Ca)) (hc:cs.contains xn=true) (φ1:a8) (A1:Hx) (le:Le K φ H φ1 H1) (S:zu K φ1 A1 H1) (n:X2 K φ H ρ j l D0 xn A1)
def X3 (K:Frag)(f:Str->Option Bool)(cv:V):List V->Hp->VK->Prop:=λxs H Q=>∃x,xs=[x,cv]/\((x=.non/\Q (.bl false) H)∨∃a o u C nm b,x=.ref a/\H a=some (.frz o u)/\o.cls=.ref C/\qZ K nm (.ref C)/\f nm=some b/\Q (.bl b) H)
structure Zh (K:Frag)(f:Str->Option Bool)(c:Value):Prop where
 non:kitOne K (.type "NoneType") c=some false
 exc:∀nm C b,f nm=some b->qZ K nm (.ref C)->Zf K C=true/\kitOne K (.ref C) c=some b
def zZ (f:Str->Option Bool)(m:Ev):Ev:=λρ A=>(m ρ A).bind λw A1=>match w with
 |.non=>.ok (.bl false) A1|.xc nm=>(match f nm with
  |some b=>.ok (.bl b) A1|none=>.bad)
 |_=>.bad
section
variable {m:Ev}{f:Str->Option Bool}
def GK {cv:V}{c:Value}(g:Zh X.K f c)(rc:∀u,RelV cv u->u=c):jI X (.builtin "isinstance") (X3 X.K f cv):=by
 intro pins s σ H xs us Q I r h;obtain⟨x,rfl,h⟩:=h;obtain⟨u,n,rfl,e,d⟩:=vals2 r;cases rc _ d;rcases h with ⟨rfl,q⟩|⟨a,o,U,C,nm,b,rfl,l,k,j,i,q⟩
 ·cases (show u=Value.none from e)
  exact M9 I g.non λt=>⟨.bl false,H,I.tok t,rfl,q⟩
 ·cases (show u=Value.ref a from e)
  obtain⟨k1,k2⟩:=g.exc nm C b i j;exact NU I l k k1 k2 λt=>⟨.bl b,H,I.tok t,rfl,q⟩
def zZ.read {cv:V}{t:TE}(i:∀σ H Q,Q cv H->t σ H Q):∀σ H Q,tM X.K xr (zZ f m) σ H Q->Q3 (X3 X.K f cv) (Qy (tM X.K xr m) (Qy t QI)) σ H Q:=by
 rintro σ H Q ⟨φ,A,ρ,S,re,h⟩
 refine tM.go S re (zC.mp h) λw A1 d H1 v c l1 s q=>?_;refine i σ H1 _ ?_;cases w with
 |non=>
  obtain rfl:=q;exact⟨.non,rfl,.inl ⟨rfl,c d H1 _ l1 s rfl⟩⟩
 |xc nm=>
  dsimp only at c;cases e:f nm with
  |none=>rw[e]at c;exact c.elim|some b=>
   rw[e]at c;obtain⟨a,o,u,C,rfl,g,Z,z⟩:=q;exact⟨.ref a,rfl,.inr ⟨a,o,u,C,nm,b,rfl,g,Z,z,e,c d H1 _ l1 s rfl⟩⟩
 |fn _=>exact c.elim|bl _=>exact c.elim|int _=>exact c.elim|str _=>exact c.elim|tup _=>exact c.elim|ref _=>exact c.elim|clo _ _ _=>exact c.elim
end
def UC {a b:Int}{c cv:Value}(l:a7)(h:TriplesOk l)(e:codeAmong pos (l++[rawInt a,rawInt b,c])=some cv):codeAmong pos l=some cv∨cv=c:=by
 fun_induction TriplesOk l with
 |case1=>
  right
  simp only[nil_append,codeAmong,rawInt]at e
  split at e
  ·exact(aj e).symm
  ·cases e
 |case2 A t B u x rest i=>
  simp only[List.cons_append,codeAmong]at e ⊢
  split at e
  ·rename_i H;rw[af H];exact .inl e
  ·rename_i H;rw[ag H];exact i h e
 |case3 l f d=>exact h.elim
def BMain (mg:bh)(base:Heap):Prop:=∃bm o,mg "__builtins__"=some (.ref bm)/\bm≠builtinsNs/\bm≠mainGlobals/\base.get? bm=some o/\o.cls=.type "module" /\ o.dict=some builtinsNs/\o.data=.plain
noncomputable def QV (q:Str)(params:Arguments)(body:Expr)(scope:Scope)(C:bo):Obj->Addr->Obj->List V->Prop:=λob c o _=>(∃pm ctv,ob=kla_obj "<lambda>" q params body scope C pm c ctv)/\Xu o q
noncomputable def gE (n:Nat)(q:Str)(P:Addr)(k:Nat)(p:Obj->Addr->Obj->List V->Prop):Ev:=λ_ A=>match A[n]? with
 |some (.tab Q P')=>if Q=q/\P'=P then .ok (.clo k [] p) A else .bad|_=>.bad
section
variable {q:Str}{P:Addr}{params:Arguments}{body:Expr}{clos:bo}
def MO (hB:BMain X.mg X.base)(y:X.env.code=.ref c)(C:CodeHd X.base c P)(hcl:closureFor scope X.env=pure clos)(hq:X.env.qual ++ "<lambda>"=q)(hdef:defaultsOf params X.env=([],[]):=by rfl):
  SE X xr (.Lambda params body scope pos) (gE n q P k (QV q params body scope clos)):=by
 intro pins s σ H Q I ⟨φ,A,ρ,S,re,h⟩;unfold gE at h;cases Z:A[n]? with
 |none=>rw[Z]at h;exact h.elim|some o=>
  rw[Z]at h;cases o with
  |tab L P'=>
   dsimp only at h
   by_cases hc:L=q/\P'=P
   ·rw[af hc]at h
    obtain⟨rfl,rfl⟩:=hc;obtain⟨a,ha,eaP,ps,t,Y⟩:=S.ob n _ Z;subst eaP;have hP:s.heap.get? a=some (tabObj ps):=(show qd X.prog X.w H s.heap a (.tbl ps) from I.hok a _ t)
    have hg:s.heap.Ns mainGlobals X.mg:=I.mod.glob.keeps I.bk;have hgP:mainGlobals≠a:=λz=>by
     obtain⟨o,es,ep,e,hd,_⟩:=hg;rw[z,hP]at e;cases e;cases hd
    have r:s.heap.BuiltinsAt X.mg a:=by
     obtain⟨bm,o,b1,b2,b3,b4,b5⟩:=hB;refine⟨bm,o,b1,b2,b3,λz=>?_,I.bk _ _ b4,b5⟩
     have:=(I.bs _ _ b4).2
     rw[z,t]at this;cases this
    refine PySem.W.kla_eval hdef ?_;rw[hq];have M:∀b,s.heap.objs.size<=b->H b=none:=λb r=>I.hok.fresh r;cases hf:codeAmong pos ps.toList with
    |none=>
     refine PySem.W.kla_makeFunction (mg:=X.mg) hcl I.ok.glob hg y (C.keeps I.bk) hP Y.1 hf hgP r λf ctv h' tk hx x U hrec htb=>?_;obtain⟨c2,g,vc,tc,ec,hoc,D,hd2⟩:=hrec;cases ec;generalize j:kla_obj "<lambda>" L params body scope clos ((X.mg "__name__").getD .none) f ctv=ob;have hPc:a<s.heap.objs.size:=aw hP;have nPc:a≠f:=az (ar hPc x);have nPf:a≠h'.objs.size:=az (lt_trans (ar hPc x) U);have T:f≠h'.objs.size:=az U;have hsf:s.heap.objs.size<=h'.objs.size:=aW x (le_of_lt U);have E:H f=none:=M f x;have l:H h'.objs.size=none:=M _ hsf;have H1f:upd H f (.frz g (.own 0)) h'.objs.size=none:=by rw[zF (Ne.symm T)];exact l
     generalize B:ps++#[rawInt pos.line,rawInt pos.col,.ref f]=p at htb;have S1:=S.lay (u:=.frz g (.own 0)) E;have S2:=S1.lay (u:=.frz ob (.own 0)) H1f;have fz:∀b o u,upd (upd H f (.frz g (.own 0))) h'.objs.size (.frz ob (.own 0)) b=some (.frz o u)->upd (upd (upd H f (.frz g (.own 0))) h'.objs.size (.frz ob (.own 0))) a (.tbl p) b=some (.frz o u):=λb o u e=>by
      rw[zF];exact e;intro z;rw[z,zF nPf,zF nPc,t]at e;cases e
     have fz0:∀b o u,H b=some (.frz o u)->upd (upd H f (.frz g (.own 0))) h'.objs.size (.frz ob (.own 0)) b=some (.frz o u):=λb o u e=>by
      rw[zF (jl e l),zF (jl e E)];exact e
     have tg':Zv (upd (upd (upd H f (.frz g (.own 0))) h'.objs.size (.frz ob (.own 0))) a (.tbl p)) L p:=by
      rw[<- B];refine⟨by rw[Array.toList_append];exact TriplesOk_snoc _ _ _ _ Y.1,λpos' cv e=>?_⟩
      rw[Array.toList_append]at e;rcases UC _ Y.1 e with e|e
      ·obtain⟨c0,oc0,u0,vs0,t0,g1,g2,g3⟩:=Y.2 pos' cv e
       exact⟨c0,oc0,u0,vs0,t0,g1,by rw[B];exact fz _ _ _ (fz0 _ _ _ g2),g3⟩
      ·exact⟨f,g,.own 0,vc,tc,e,by rw[B];exact fz _ _ _ (by rw[zF T,ql]),D,hd2⟩
     obtain⟨l3,S3⟩:=S2.write (o:=.tab L a) (o':=.tab L a) Z rfl rfl ha (u:=.tbl p) ⟨rfl,p,ql,tg'⟩;have l03:Le X.K φ H φ _:=((Le.new E).trans (Le.new H1f)).trans l3;have set3:A.set n (.tab L a)=A:=by
      apply List.ext_getElem?
      intro i
      by_cases hi:n=i
      ·subst hi
       rw[aF (bx.mp Z).1,Z]
      ·rw[aH hi]
     rw[set3]at S3;have eP:upd (upd (upd H f (.frz g (.own 0))) h'.objs.size (.frz ob (.own 0))) a (.tbl p) a=some (.tbl p):=ql;have ec:upd (upd (upd H f (.frz g (.own 0))) h'.objs.size (.frz ob (.own 0))) a (.tbl p) f=some (.frz g (.own 0)):=by rw[zF (Ne.symm nPc),zF T,ql]
     have ef:upd (upd (upd H f (.frz g (.own 0))) h'.objs.size (.frz ob (.own 0))) a (.tbl p) h'.objs.size=some (.frz ob (.own 0)):=by rw[zF (Ne.symm nPf),ql]
     have J:∀b,b≠a->b≠f->b≠h'.objs.size->upd (upd (upd H f (.frz g (.own 0))) h'.objs.size (.frz ob (.own 0))) a (.tbl p) b=H b:=λb n1 n2 n3=>by rw[zF n1,zF n3,zF n2]
     generalize upd (upd (upd H f (.frz g (.own 0))) h'.objs.size (.frz ob (.own 0))) a (.tbl p)=H3 at S3 l03 eP ec ef J;have kp:∀b o,b≠a->s.heap.get? b=some o->(h'.push ob).get? b=some o:=λb o n e=>aa _ (hx b o n e);have old:∀b o,s.heap.get? b=some o->b≠f/\b≠h'.objs.size:=λb o e=>⟨az (ar (aw e) x),az (ar (aw e) hsf)⟩;have N:∀b u,H b=some u->b≠f/\b≠h'.objs.size:=λb u e=>⟨jl e E,jl e l⟩;have gP:(h'.push ob).get? a=some (tabObj p):=aa _ htb;have I3:Inv X pins σ H3 { s with heap:=h'.push ob,toks:=tk }:=by
      refine I.un ⟨λb o e z r _=>?_,λb o e z r _=>?_,λb o e z _=>?_,λb o e _=>?_,λb xs e=>?_,λb o u e=>?_,λb qs e=>?_⟩ λb u e=>?_
      ·exact kp b o (λw=>by rw[w,t]at z;cases z) e
      ·exact⟨o.slots,kp b o (λw=>by rw[w,t]at z;cases z) e⟩
      ·rw[J b (λw=>by rw[w,t]at z;cases z) (old b o e).1 (old b o e).2];exact z
      ·by_cases r:b=a
       ·rw[r];exact⟨_,gP⟩
       ·exact⟨o,kp b o r e⟩
      ·rw[J b (gA e t (by intro w;cases w)) (N b _ e).1 (N b _ e).2];exact e
      ·rw[J b (gA e t (by intro w;cases w)) (N b _ e).1 (N b _ e).2];exact e
      ·by_cases r:b=a
       ·subst r
        rw[t]at e;cases e;exact⟨_,by rw[eP,<- B]⟩
       ·exact⟨#[],by rw[J b r (N b _ e).1 (N b _ e).2,e];simp⟩
      ·by_cases h1:b=a
       ·subst h1
        rw[eP]at e;cases e;exact gP
       ·by_cases h2:b=f
        ·subst h2
         rw[ec]at e;cases e;exact⟨aa _ hoc,⟨_,aa _ hoc⟩⟩
        ·by_cases h3:b=h'.objs.size
         ·subst h3
          rw[ef]at e;cases e;exact⟨ah _ (by rw[<- j];rfl),⟨_,ah _ (by rw[<- j];rfl)⟩⟩
         ·rw[J b h1 h2 h3]at e
          refine(I.hok b u e).stay (λd v hd z=>kp d v ?_ z) (λd z=>?_) λd xs z=>?_
          ·rcases hd with w|w
           ·rw[w];exact h1
           ·exact gA w t (by intro w;cases w)
          ·rw[J d (gA z t (by intro w;cases w)) (N d _ z).1 (N d _ z).2];exact z
          ·rw[J d (gA z t (by intro w;cases w)) (N d _ z).1 (N d _ z).2];exact z
     exact⟨.ref h'.objs.size,H3,I3,rfl,h φ H3 _ l03 S3 ⟨h'.objs.size,ob,.own 0,f,g,.own 0,[],rfl,ef,ec,⟨⟨_,_,j.symm⟩,vc,tc,D,hd2⟩,rfl⟩⟩
    |some cv=>
     obtain⟨f,g,u0,vc,tc,rfl,hHc,D,hd2⟩:=Y.2 pos cv hf;refine PySem.W.kla_makeFunctionHit (mg:=X.mg) hcl I.ok.glob hg y (C.keeps I.bk) hP Y.1 hf r λctv h' tk hx hsz=>?_;generalize j:({ cls:=.type "function",data:=.func (kla_fn "<lambda>" L params body scope clos ((X.mg "__name__").getD .none) (.ref f) ctv) }:Obj)=ob;have l:H h'.objs.size=none:=M _ hsz;have I3:Inv X pins σ (upd H h'.objs.size (.frz ob (.own 0))) { s with heap:=h'.push ob,toks:=tk }:=
      I.laid (λb o e=>aa _ (hx b o e)) hsz ⟨ah _ (by rw[<- j];rfl),⟨_,ah _ (by rw[<- j];rfl)⟩⟩
     refine⟨.ref h'.objs.size,_,I3,rfl,h φ _ _ (Le.new l) (S.lay l) ⟨h'.objs.size,ob,.own 0,f,g,u0,[],rfl,ql,?_,⟨⟨_,_,j.symm⟩,vc,tc,D,hd2⟩,rfl⟩⟩;rw[zF (jl hHc l)];exact hHc
   ·rw[ag hc]at h;exact h.elim
  |_=>exact h.elim
end
structure Lm where
 N:bb
 idx:ba
 params:Arguments
 body:Expr
 scope:Scope
 m:Ev
noncomputable def wQ:List Nat->En->Option (List W)
 |[],_=>some []|j::J,ρ=>match ρ[j]?,wQ J ρ with
  |some (some w),some ws=>some (w::ws)|_,_=>none
noncomputable def ku:List Nat->St->Option (List V)
 |[],_=>some []|j::J,σ=>match σ[j]?,ku J σ with
  |some (some w),some ws=>some (w::ws)|_,_=>none
theorem Gg {K:Frag}(r:RE K φ H ρ σ):∀{J:ba}{ws:List W},wQ J ρ=some ws->∃vs,ku J σ=some vs/\zo K φ H ws vs
 |[],ws,e=>by cases e;exact⟨[],rfl,.nil⟩|j::J,ws,e=>by
  unfold wQ at e;cases E:ρ[j]? with
  |none=>rw[E]at e;cases e|some o=>cases o with
   |none=>rw[E]at e;cases e|some w=>
    rw[E]at e;cases a:wQ J ρ with
    |none=>rw[a]at e;cases e|some b=>
     rw[a]at e;cases e;obtain⟨v,f,d⟩:=r.get j w E;obtain⟨vs,c,h⟩:=Gg r a;exact⟨v::vs,by unfold ku;rw[f,c],.cons d h⟩
theorem GG:∀{J:ba}{vs:List V},ku J σ=some vs->vs.length=J.length/\∀(i:Nat)(v:V),vs[i]? =some v->∃j,J[i]? =some j/\σ[j]? =some (some v)
 |[],vs,e=>by cases e;exact⟨rfl,λi v h=>by simp at h⟩|j::J,vs,e=>by
  unfold ku at e;cases E:σ[j]? with
  |none=>rw[E]at e;cases e|some o=>cases o with
   |none=>rw[E]at e;cases e|some w=>
    rw[E]at e;cases r:ku J σ with
    |none=>rw[r]at e;cases e|some c=>
     rw[r]at e;cases e;obtain⟨f,H⟩:=GG r;refine⟨by simp[f],λi v h=>?_⟩
     cases i with
     |zero=>simp at h;subst h;exact⟨j,by simp,E⟩|succ i=>simp at h;obtain⟨d,a,b⟩:=H i v h;exact⟨d,by simpa using a,b⟩
noncomputable def yc (ls:List Lm)(k:Nat):Fn:=λws A=>match ls[k]? with
 |some t=>t.m (ws.map some) A|none=>.bad
def kZ (env:Env)(q:Str)(ls:List Lm)(k:Nat):Obj->Addr->Obj->List V->Prop:=λob c o vs=>∃t,ls[k]? =some t/\QV q t.params t.body t.scope (jn env t.scope.names []) ob c o vs
def ZL (env:Env)(q:Str)(ls:List Lm)(σ:St)(k:Nat):Obj->Addr->Obj->List V->Prop:=λob c o vs=>∃t,ls[k]? =some t/\QV q t.params t.body t.scope (jn env t.scope.names []) ob c o vs/\ku t.idx σ=some vs
structure QT (P:Program)(w:World)(K:Frag)(mg:bh)(j:Nat)(q:Str)(t:Lm):Prop where
 sc:J1 t.N t.scope
 bind:∀(cl:bo)(pm cdv ctv:Value),bindArgs (kla_fn "<lambda>" q t.params t.body t.scope cl pm cdv ctv) ⟨[],[]⟩=pure []
 body:∀(base:Heap)(cl:bo)(a c:Addr)(A:Around)(outer:bj)(s:Shared)(H:Hp)(E:XK),zW j (A.deeper (envX q t.scope s.heap.objs.size a (.ref c) cl))->jO (y6 P w K mg base t.N q t.scope a (.ref c) cl A outer s H E) s.heap (yg K E)->
  SE (y6 P w K mg base t.N q t.scope a (.ref c) cl A outer s H E) (yg K E) t.body t.m
section
variable {K:Frag}{q:Str}{ls:List Lm}
def Lu (l:∀t∈ls,QT P w K mg j q t)(f:∀t∈ls,∀vs,ku t.idx σ=some vs->Z5 base t.N t.scope (jn env t.scope.names []) vs)(k:Nat):wG P w K mg base (j+1) (ZL env q ls σ k) (yc ls k):=by
 rintro a ob u c o uc vs ⟨t,d,⟨⟨pm,ctv,rfl⟩,b⟩,v⟩
 have mt:t∈ls:=a3 d;have L:=l t mt;refine⟨⟨_,rfl⟩,_,((MK (name := "<lambda>") (params:=t.params) (body:=t.body) (pm:=pm) (ctv:=ctv) (a:=a) (c:=c) (u:=u) (uc:=uc) (m:=t.m) L.sc (f t mt vs v) b λA outer s H E e x=>L.body base _ a c A outer s H E e x)).imp λus H Q E h=>?_,λs=>.of_eq (L.bind _ _ _ _)⟩;obtain⟨n,i,g,φ,A,ws,S,r,h⟩:=h;refine⟨n,i,g,φ,A,ws,S,r,?_⟩;unfold yc at h;rw[d]at h;exact h
end
noncomputable abbrev yY:=Nat->Obj->Addr->Obj->List V->Prop
open Classical in
noncomputable def kT (PG:yY)(r:Nat->List W->Hx->R W):Fn:=λus A=>match us with
 |[.clo k ws P]=>if P=PG k then r k ws A else .bad|_=>.bad
open Classical in
structure ZI (X:Cx)(t:Lm):Prop where
 len:t.idx.length=t.N.length
 nm:∀(i:Nat)(x:Str)(j:Nat),t.N[i]? =some x->t.idx[i]? =some j->X.N[j]? =some x/\t.scope.names.lookup x=some .free
 free:∀y∈t.scope.names,y.2=.free->X.env.kindOf y.1=some .cell∨X.env.kindOf y.1=some .free
section
def Z4 (I:Inv X pins σ H s){t:Lm}(L:ZI X t)(h:(jn X.env t.scope.names []).lookup x=some c):X.env.cells.lookup x=some c:=by
 rcases wa _ _ (PySem.mem_of_lookup h) with z|⟨z,e⟩
 ·cases z
 ·obtain⟨C,a⟩:=I.ok.has x (L.free _ z rfl)
  rw[a]at e ⊢;exact congrArg some e.symm
def Pq (I:Inv X pins σ H s)(g:∀x c v,X.env.cells.lookup x=some c->s.heap.IsCell c v->base.IsCell c v){t:Lm}(L:ZI X t)(n:ku t.idx σ=some vs):Z5 base t.N t.scope (jn X.env t.scope.names []) vs:=by
 obtain⟨v1,v2⟩:=GG n;refine⟨v1.trans L.len,λx y c d b=>I.ok.inj x y c (Z4 I L d) (Z4 I L b),λx h=>?_,λx c h=>?_,λi x v d b=>?_⟩
 ·exact Option.isSome_iff_exists.mp (Z0 _ _ (.inl (PySem.mem_of_lookup h)))
 ·have e:=Z4 I L h
  obtain⟨v,z⟩:=I.cell x c e;exact⟨v,g x c v e z⟩
 ·obtain⟨j,w,q⟩:=v2 i v b
  obtain⟨p,E⟩:=L.nm i x j d w;have fr:=L.free _ (PySem.mem_of_lookup E) rfl;obtain⟨m,hn,o⟩:=I.loc;obtain⟨u,r,lk⟩:=o j x v p q (.inr fr);obtain⟨c,f⟩:=Option.isSome_iff_exists.mp (Z0 (env:=X.env) t.scope.names [] (.inl (PySem.mem_of_lookup E)));have l:=Z4 I L f;rcases lk with ⟨z,_⟩|⟨_,C,a,cell⟩
  ·exfalso
   rcases fr with k|k<;>(rw[k]at z;cases z)
  ·rw[l]at a
   cases a;exact⟨c,u,E,f,g x c _ l cell,r⟩
def OK (I:Inv X pins σ H s)(h:∀x,X.fn x=true)(e:X.env.cells.lookup x=some c):c∉zK X.stack:=λhm=>by
 rcases bz.mp (I.stkSub c hm) with z|z
 ·exact I.cne x c e z
 ·obtain⟨_,o,a,_⟩:=I.ok.funs.mem z
  exact absurd (ar (aw a) (I.ok.cab x c (h x) e)) (aB _)
noncomputable def yV (base h:Heap)(cells:bo):Heap:=hideAll h ((List.range h.objs.size).filter λb=>(base.get? b).isNone&&!(cells.any λp=>cells.lookup p.1==some b))
def GN {o:Obj}(e:(yV base h cells).get? b=some o):h.get? b=some o/\((∃o',base.get? b=some o')∨∃x,cells.lookup x=some b):=by
 have E:=of_hideAll _ e;refine⟨E,?_⟩
 by_cases hm:b∈(List.range h.objs.size).filter λb=>(base.get? b).isNone&&!(cells.any λp=>cells.lookup p.1==some b)
 ·unfold yV at e
  rw[hideAll_none _ hm]at e;cases e
 ·rw[mem_filter]at hm
  have c:b∈List.range h.objs.size:=List.mem_range.mpr (aw E);cases g:base.get? b with
  |some o'=>exact .inl ⟨o',rfl⟩|none=>
   right
   by_cases H:(cells.any λp=>cells.lookup p.1==some b)=true
   ·obtain⟨p,_,a⟩:=List.any_eq_true.mp H
    exact⟨p.1,au.mp a⟩
   ·exact absurd ⟨c,by rw[g];simpa using H⟩ hm
def Sj (k:∀b o,base.get? b=some o->h.get? b=some o){o:Obj}(e:base.get? b=some o):(yV base h cells).get? b=some o:=
 a4 _ (k b o e) λhm=>by
  rw[mem_filter,e]at hm;simp at hm
def Rb {o:Obj}(l:cells.lookup x=some c)(e:h.get? c=some o):(yV base h cells).get? c=some o:=
 a4 _ e λhm=>by
  rw[mem_filter,aq,not_eq_true']at hm
  have:=hm.2.2
  rw[List.any_eq_false]at this;exact this _ (PySem.mem_of_lookup l) (by simpa using l)
end
def Rw {K:Frag}{M:bh}{fa:Addr}{sp:Sp}{S:Shared}{vs:a7}{ns:a6}
  (KX:K.In S.heap)(y:S.heap.Ns mainGlobals mg)(c:S.heap.Ns builtinsNs M)(X:∀x:Str,x ≠ "__name__" -> M x=bootBuiltins x)(A:S.heap.NoLimit)(hg:S.gens=#[])
  (p:S.heap.get? a=some { cls:=.type "list",data:=.seq vs.toArray })(hi:IntsAre vs ns)(hl:ns.length<=sizeLine)(hr:zW k callerA)
  (t:S.heap.get? Pt=some (tabObj #[]))(Y:K.lookup Pt=none)(T:isCodeTable S.heap Pt)(U:BMain mg S.heap)
  (F:∀base:Heap,K.In base->base.Ns mainGlobals mg->BMain mg base->qA P w K mg base jS k fa fd [x] sp)(l:∀(s:Shared)(u:Value),BindsTo s fd ⟨[u],[]⟩ [(x,u)])
  (J:∀H:Hp,H Pt=some (.tbl #[])->gJ K H a (ns.map V.int)->sp [.ref a] H (λv _=>v=.bl true) λ_ _ _=>False):
  codeAny (model P w) callerA (.call (.ref fa) ⟨[.ref a],[]⟩) (λr s'=>r=.ok (.ret (.bool true))/\OldK S.heap s'.heap/\s'.os=S.os/\AllBare s'.gens) S:=by
 have rv:=Gr hi;have L:=hi.length;have j:a≠Pt:=λz=>by rw[z,t]at p;cases p
 have core:∀H:Hp,H Pt=some (.tbl #[])->gJ K H a (ns.map V.int)->z9 P w H S.heap->(∀b,H b≠none->b=a∨b=Pt)->(∀u,H a=some u->K.lookup a=none/\∃o xs,u=.frz o (.lst xs))->
   codeAny (model P w) callerA (.call (.ref fa) ⟨[.ref a],[]⟩) (λr s'=>r=.ok (.ret (.bool true))/\OldK S.heap s'.heap/\s'.os=S.os/\AllBare s'.gens) S:=by
  intro H hO hS hok D hK;have base_of:∀{b:Addr}{o:Obj},S.heap.get? b=some o->H b=none->(yX S.heap H).get? b=some o:=λe n=>Oe e n;have I:∀{b:Addr}{o:Obj}{es:Array DictEntry}{E:Nat},S.heap.get? b=some o->o.data=.dict es E->H b=none:=λ {b o es E} e d=>by
   cases q:H b with
   |none=>rfl|some u=>
    rcases D b (by rw[q];simp) with z|z
    ·subst z
     rw[p]at e;cases e;have d':Data.seq vs.toArray _=Data.dict es E:=d;cases d'
    ·subst z
     rw[t]at e;cases e;cases d
  have N:∀{b:Addr}{m:bh},S.heap.Ns b m->(yX S.heap H).Ns b m:=λ {b m} ⟨o,es,E,e,d,r⟩=>⟨o,es,E,base_of e (I e d),d,r⟩;have B:K.In (yX S.heap H):=λb o e=>base_of (KX b o e) (by
   cases q:H b with
   |none=>rfl|some u=>
    rcases D b (by rw[q];simp) with z|z
    ·subst z
     rw[(hK u q).1]at e;cases e
    ·subst z
     rw[Y]at e;cases e)
  have hBb:BMain mg (yX S.heap H):=by
   obtain⟨bm,o,b1,b2,b3,C,b5,b6,b7⟩:=U;refine⟨bm,o,b1,b2,b3,base_of C ?_,b5,b6,b7⟩;cases q:H bm with
   |none=>rfl|some u=>
    rcases D bm (by rw[q];simp) with z|z
    ·subst z
     rw[p]at C;cases C;exact absurd b5 (by intro q;injection q with q;exact absurd q (by decide))
    ·subst z
     rw[t]at C;cases C;cases b5
  have hM:Mod K mg (yX S.heap H):=⟨B,N y,⟨M,N c,X⟩,let ⟨mc,h1,h2⟩:=A;⟨mc,N h1,h2⟩⟩
  have e0:kn P w K mg (yX S.heap H) callerA [] S H:=⟨rfl,hM,λb o e=>Nc e,le_of_eq (Rp _ _),trivial,λb c=>absurd (show b∈([]:a8) from c) (by simp),hok,.of_eq hg⟩
  refine codeAny_mono ((F _ B (N y) hBb).run callerA [] S H ⟨[.ref a],[]⟩ [.ref a] [.ref a] _ _ hr e0 (l S (.ref a)) (.cons rfl .nil) (J H hO hS)) λr s' h=>?_;cases r with
  |error e=>exact False.elim h|ok fl=>
   cases fl with
   |next=>exact False.elim h|brk=>exact False.elim h|cont=>exact False.elim h|ret u=>
    obtain⟨v,H',os,bare,un,g,r',q⟩:=h;have q':v=.bl true:=q;subst q';obtain rfl:u=Value.bool true:=r';refine⟨rfl,⟨λb o e=>?_,λb o e=>un.there b o e (by simp)⟩,os,bare⟩
    cases q:H b with
    |none=>exact .inl (un.keep b o e q (by intro z;exact absurd (show b∈([]:a8) from z) (by simp)) (by simp))|some u=>
     rcases D b (by rw[q];simp) with z|z
     ·subst z
      obtain⟨ob,xs,rfl⟩:=(hK u q).2;have i:=un.frzs _ ob _ q;obtain⟨e1,_⟩:=hok _ _ q;obtain⟨e2,_⟩:=g _ _ i;rw[e]at e1;cases e1;exact .inl e2
     ·subst z
      rw[t]at e;cases e;obtain⟨more,i⟩:=un.tbls _ _ hO;exact .inr (.inl ⟨T,rfl,#[],more,rfl,g _ _ i⟩)
 cases Q:K.lookup a with
 |some o=>
  have e:=KX a o Q;rw[p]at e;cases e;refine core (λb=>if b=Pt then some (.tbl #[]) else none) (af rfl) (.inr ⟨_,vs.toArray,_,Q,rfl,rfl,rfl,by rw[ax,L];exact hl,by simpa using rv⟩) (λb u z=>?_) (λb z=>?_) λu z=>?_
  ·by_cases c:b=Pt
   ·have Z:=(af c).symm.trans z
    cases Z;rw[c];exact t
   ·have Z:=(ag c).symm.trans z
    cases Z
  ·by_cases c:b=Pt
   ·exact .inr c
   ·exact absurd (ag c) z
  ·have Z:=(ag j).symm.trans z
   cases Z
 |none=>
  refine core (λb=>if b=Pt then some (.tbl #[]) else if b=a then some (.frz { cls:=.type "list",data:=.seq vs.toArray } (.lst (ns.map V.int))) else none) (af rfl)
   (.inl ⟨{ cls:=.type "list",data:=.seq vs.toArray },(ag j).trans (af rfl)⟩) (λb u z=>?_) (λb z=>?_) λu z=>?_
  ·by_cases c:b=Pt
   ·have Z:=(af c).symm.trans z
    cases Z;rw[c];exact t
   ·have Z:=(ag c).symm.trans z
    by_cases f:b=a
    ·have i:=(af f).symm.trans Z
     cases i;subst f;exact⟨p,by rw[aL];exact hl,vs,_,rv,p⟩
    ·have i:=(ag f).symm.trans Z
     cases i
  ·by_cases c:b=Pt
   ·exact .inr c
   ·by_cases f:b=a
    ·exact .inl f
    ·exact absurd ((ag c).trans (ag f)) z
  ·have Z:=((ag j).trans (af rfl)).symm.trans z
   cases Z;exact⟨Q,_,_,rfl⟩
inductive spT (K:Frag)(n:Nat)(fs:yY->Fn)(vs:List V)(H:Hp)(Q:VK)(E:XK):Prop
 |mk (len:vs.length=n) (φ:a8) (A:Hx) (ws:List W) (S:zu K φ A H) (r:zo K φ H ws vs) (q:∀PF,(fs PF ws A).post (PB K φ H Q) (EB K φ H (XE K E)))
def spT.len {K:Frag}{fs:yY->Fn}{Q:VK}{E:XK}(h:spT K n fs vs H Q E):vs.length=n:=by cases h;assumption
def Sf {K:Frag}{q:Str}{ns:a6}(P:H Pt=some (.tbl #[]))(S:gJ K H a (ns.map V.int)):zu K [a,Pt] [.ro (ns.map W.int),.tab q Pt] H:=by
 refine⟨rfl,λi j b o o' k g d c f M=>?_,λn o h=>?_⟩
 ·match i,j,d,c with
  |0,_,d,_=>simp at d;subst d;cases f|_,0,_,c=>simp at c;subst c;cases M|1,1,_,_=>rfl|i+2,_,d,_=>simp at d|_,j+2,_,c=>simp at c
 ·match n,h with
  |0,h=>simp at h;subst h;exact⟨a,rfl,ns.map V.int,S,zo.ints.mpr rfl⟩|1,h=>simp at h;subst h;exact⟨Pt,rfl,rfl,#[],P,trivial,λpos cv e=>nomatch e⟩
  |n+2,h=>simp at h
section
variable {K:Frag}
def Oo {a:Value}{o:bq}(hn:nsIn K mainGlobals x=some (some (.ref f)))(lk:K.lookup f=some ⟨a,o,.func fd,osl⟩)(h:tabIn K x=some (c,Pt)):fd.code=.ref c:=by
 unfold tabIn at h;rw[hn]at h;dsimp only at h;rw[lk]at h;dsimp only at h
 split at h
 ·rename_i C H
  split at h
  ·split at h
   ·cases h;exact H
   ·cases h
  ·cases h
 ·cases h
def HX {q:Str}{st:Stmt}{ls:List Lm}{m:yY->Ex}(F:jj K x x st f fd)(hn:nsIn K mainGlobals x=some (some (.ref f)))(t:tabIn K x=some (c,Pt))(S:zV N ps (zH st))
  (a:∀(A:Around)(outer:bj)(s:Shared)(H:Hp)(E:XK),zW k (A.deeper (envOfC x (zH st) s.heap.objs.size f (.ref c)))->
   gN (jA jS P w K mg base N x (zH st) f (.ref c) A outer s H E).nox qx (jx st) (m (kZ (envOfC x (zH st) s.heap.objs.size f (.ref c)) q ls))):
  qA P w K mg base jS (k+1) f fd ps (spT K ps.length λu=>qu N.length (m u)):=by
 obtain⟨I,D,kV,doc,pm,an,C,ct,o,rfl,lk,d⟩:=F.ex;have v:C=.ref c:=Oo hn lk t;subst v;refine Qz lk d S (λvs H Q E h=>h.len) λA outer s H vs Q E i ⟨J,φ,A1,ws,n,r,h⟩=>⟨_,jb.nox (a A outer s H E i),?_⟩;refine⟨φ,A1,ws.map some++List.replicate (N.length-ws.length) none,n,RE.start r,?_⟩;have h':=zC.mp (h (kZ (envOfC x (zH st) s.heap.objs.size f (.ref c)) q ls));show R.post _ (FB K φ H _) _;cases e:m (kZ (envOfC x (zH st) s.heap.objs.size f (.ref c)) q ls) (ws.map some++List.replicate (N.length-ws.length) none) A1 with
 |ok j B=>
  rw[e]at h';cases j with
  |rt w=>exact h'|nx ρ=>exactλb z g l p _=>h' b z .non l p rfl|bk ρ=>exact h'.elim|ct ρ=>exact h'.elim
 |exc y B=>rw[e]at h';exact h'.elim|bad=>rw[e]at h';exact h'.elim
end
noncomputable def Yw (K:Frag)(x:Str)(Pt:Addr):Bool:=match tabIn K x with
 |some (c,P)=>P==Pt&&codeHdIn K c Pt|none=>false
def W0 {K:Frag}(h:Yw K x Pt=true):∃c,tabIn K x=some (c,Pt)/\codeHdIn K c Pt=true:=by
 unfold Yw at h
 split at h
 ·rename_i c P e
  rw[aq,au]at h;obtain⟨rfl,H⟩:=h;exact⟨c,e,H⟩
 ·cases h
theorem zU.mono {K:Frag}{f:Fn}(F:zU P w K mg base j x n f)(h:j<=k):zU P w K mg base k x n f:=by cases F with|mk d fd p F a b c=>exact⟨d,fd,p,F.mono h,a,b,c⟩
noncomputable abbrev Q1:a7:=[.type "ValueError",.type "Exception",.type "BaseException",.type "object"]
noncomputable abbrev QL:String := "ValueError.__new__"
section
variable {K:Frag}{cs:bb}{top nm:Str}
noncomputable def clsAt (K:Frag)(x:Str):Addr:=match nsIn K mainGlobals x with
 |some (some (.ref C))=>C|_=>0
def isAt (K:Frag)(x:Str):Bool:=nsIn K mainGlobals x==some (some (.ref (clsAt K x)))
def qa (cs:bb)(x:Str):Str->Option Bool:=λnm=>if cs.contains nm then some (nm==x) else none
def Kj (cs:bb):Str->Option Bool:=λnm=>if cs.contains nm then some true else none
def kL (K:Frag)(cs:bb)(x:Str):Bool:=isAt K x&&kitOne K (.type "NoneType") (.ref (clsAt K x))==some false&&cs.all λnm=>kitOne K (.ref (clsAt K nm)) (.ref (clsAt K x))==some (nm==x)
def Qv (K:Frag)(top nm:Str):Bool:=isAt K nm&&Zf K (clsAt K nm)&&Mi.yB K (clsAt K nm) Q1 QL&&wL K (clsAt K nm) (clsAt K top)&&kitOne K (.ref (clsAt K nm)) (.type "ValueError")==some true
def Yt (K:Frag)(top:Str):Bool:=isAt K top&&Mi.yB K (clsAt K top) Q1 QL&&kitOne K (.type "NoneType") (.type "ValueError")==some false
def Qj (h:isAt K x=true):qZ K x (.ref (clsAt K x)):=au.mp h
def wg (h:qZ K x (.ref C)):C=clsAt K x:=by
 unfold clsAt;unfold qZ at h;rw[h]
structure JW (K:Frag)(top nm:Str):Prop where
 at_:qZ K nm (.ref (clsAt K nm))
 kit:Zf K (clsAt K nm)=true
 exc:Mi.yB K (clsAt K nm) Q1 QL=true
 up:wL K (clsAt K nm) (clsAt K top)=true
 val:kitOne K (.ref (clsAt K nm)) (.type "ValueError")=some true
def Lv (h:Qv K top nm=true):JW K top nm:=by
 unfold Qv at h;simp only[aq,au]at h;obtain⟨⟨⟨⟨d,c⟩,b⟩,a⟩,H⟩:=h;exact⟨Qj d,c,b,a,H⟩
structure qG (K:Frag)(cs:bb)(top:Str):Prop where
 exc:∀nm,cs.contains nm=true->JW K top nm
 top_at:qZ K top (.ref (clsAt K top))
 top_exc:Mi.yB K (clsAt K top) Q1 QL=true
 non:kitOne K (.type "NoneType") (.type "ValueError")=some false
def M6 (h:cs.all (Qv K top ·)=true)(t:Yt K top=true):qG K cs top:=by
 unfold Yt at t;simp only[aq,au]at t;obtain⟨⟨t1,T⟩,t3⟩:=t;exact⟨λnm e=>Lv (bA.mp h nm (List.contains_iff_mem.mp e)),Qj t1,T,t3⟩
def qG.isx (c:qG K cs top)(h:kL K cs x=true):Zh K (qa cs x) (.ref (clsAt K x)):=by
 unfold kL at h;simp only[aq,au]at h;obtain⟨⟨f,d⟩,a⟩:=h;refine⟨d,λnm C b e H=>?_⟩;unfold qa at e
 by_cases hm:cs.contains nm=true
 ·rw[af hm]at e
  cases e;cases wg H;exact⟨(c.exc nm hm).kit,au.mp (bA.mp a nm (List.contains_iff_mem.mp hm))⟩
 ·rw[ag hm]at e;cases e
def jH (h:kL K cs x=true):qZ K x (.ref (clsAt K x)):=by
 unfold kL at h;simp only[aq,au]at h;exact Qj h.1.1
def qG.isv (c:qG K cs top):Zh K (Kj cs) (.type "ValueError"):=by
 refine⟨c.non,λnm C b e h=>?_⟩;unfold Kj at e
 by_cases hm:cs.contains nm=true
 ·rw[af hm]at e
  cases e;cases wg h;exact⟨(c.exc nm hm).kit,(c.exc nm hm).val⟩
 ·rw[ag hm]at e;cases e
def qG.under (c:qG K cs top):∀nm,cs.contains nm=true->∀C,qZ K nm (.ref C)->∃b n,Mi.yB K C b n=true/\wL K C (clsAt K top)=true:=λnm hm C h=>by
 cases wg h;exact⟨_,_,(c.exc nm hm).exc,(c.exc nm hm).up⟩
end
noncomputable def QG (M:bb)(sc:Scope)(t:Lm):Bool:=t.idx.length==t.N.length&&((List.range t.N.length).all λi=>match t.N[i]?,t.idx[i]? with
 |some x,some j=>M[j]?==some x&&t.scope.names.lookup x==some .free|_,_=>false)&&t.scope.names.all λy=>!(y.2==.free) || (sc.names.lookup y.1==some .cell || sc.names.lookup y.1==some .free)
def Yg {t:Lm}(h:QG X.N X.env.scope t=true):ZI X t:=by
 unfold QG at h;rw[aq,aq]at h;obtain⟨⟨d,c⟩,b⟩:=h;refine⟨au.mp d,λi x j E f=>?_,λy H e=>?_⟩
 ·have a:i<t.N.length:=(bx.mp E).1
  have q:=bA.mp c i (List.mem_range.mpr a);rw[E,f]at q;dsimp only at q;rw[aq]at q;exact⟨au.mp q.1,au.mp q.2⟩
 ·have q:=bA.mp b y H
  rw[e]at q;rw[or_eq_true,or_eq_true]at q;rcases q with q|q|q
  ·cases q
  ·exact .inl (au.mp q)
  ·exact .inr (au.mp q)
def all_nil {p:α->Prop}:∀t∈([]:List α),p t:=λ_ h=>nomatch h
def all_cons {p:α->Prop}{a:α}{l:List α}(h:p a)(r:∀t∈l,p t):∀t∈a::l,p t:=λt H=>by
 rcases bz.mp H with e|e
 ·rw[e];exact h
 ·exact r t e
def N7 {q:Str}{ls:List Lm}{t:Lm}(H:ls[k]? =some t):kZ env q ls k=QV q t.params t.body t.scope (jn env t.scope.names []):=by
 funext ob c o vs
 refine propext ⟨λ⟨t',e,h⟩=>?_,λh=>⟨t,H,h⟩⟩;rw[H]at e;cases e;exact h
section
variable {q:Str}{ls:List Lm}{t:Lm}
def Nj (d:ls[k]? =some t)(L:QG X.N X.env.scope t=true)(B:BMain X.mg X.base)(a:X.env.code=.ref c)(C:CodeHd X.base c Pt)(g:X.env.qual ++ "<lambda>"=q)(f:defaultsOf t.params X.env=([],[])):
  SE X xr (.Lambda t.params t.body t.scope pos) (gE n q Pt k (kZ X.env q ls k)):=by
 intro pins s σ H Q I h;rw[N7 d]at h;exact MO B a C (WZ λy b e=>I.ok.has _ ((Yg L).free y b e)) g f pins s σ H Q I h
end
noncomputable def Zg:Stmt:=.Pass ⟨0,0,0,0⟩
noncomputable def wD:Expr:=.Constant .none 0 ⟨0,0,0,0⟩
def Hw (s:Stmt)(i:Nat):Stmt:=match s with
 |.For _ _ b _ _=>b.getD i Zg|.If _ b _ _=>b.getD i Zg|.While _ b _ _=>b.getD i Zg|_=>Zg
def Hh (e:Expr)(i:Nat):Expr:=match e with
 |.Call _ a _ _=>a.getD i wD|.List E _=>E.getD i wD|.Tuple E _ _=>E.getD i wD|.BinOp a _ b _=>if i=0 then a else b|_=>wD
noncomputable def I9 (e:Expr):Arguments:=match e with
 |.Lambda a _ _ _=>a|_=>{ posonlyargs:=[],args:=[],vararg:=none,kwonlyargs:=[],kw_defaults:=[],kwarg:=none,defaults:=[] }
def Ho (e:Expr):Expr:=match e with
 |.Lambda _ b _ _=>b|_=>wD
noncomputable def HE (e:Expr):Scope:=match e with
 |.Lambda _ _ s _=>s|_=>{ kind:=.function,names:=[],isGenerator:=false,isCoroutine:=false }
def HB (e:Expr)(N:bb)(idx:ba)(m:Ev):Lm:=⟨N,idx,I9 e,Ho e,HE e,m⟩
section
variable {m:Ev}
noncomputable def gD (m:Ev)(t:Tg):Ex:=λρ A=>(m ρ A).bind λw A1=>match t w ρ with
 |some a=>.ok (.nx a) A1|none=>.bad
end
open Classical in
def Ha (s:Stmt):Expr:=match s with
 |.If t _ _ _=>t|_=>wD
section
open PySem.SeqAt
open PySem.AutoSeq1 (wpAny_loadPart')
open PySem.MeetsSeq PySem.MeetsSeq2 PySem.MeetsSeq3
end
open PySem
open PySem PySem.Spec PyProof.Rows
namespace F
end F
section
variable {m:Ev}{lo hi:Option Expr}{K:Frag}
abbrev Po:=En->Hx->R (bg)
noncomputable def Q2:Po:=λ_ A=>.ok none A
noncomputable def kS (m:Ev):Po:=λρ A=>(m ρ A).bind λw A1=>match w with
 |.int i=>.ok (some i) A1|_=>.bad
noncomputable def ZF (ws:List W)(lo h:bg):List W:=(ws.drop (HT.jk ws.length 0 lo)).take (HT.jk ws.length ws.length h-HT.jk ws.length 0 lo)
inductive MP (K:Frag)(xr:XR)(p:Po)(σ:St)(H:Hp)(Q:Option Int->Hp->Prop):Prop
 |mk (φ:a8) (A:Hx) (ρ:En) (S:zu K φ A H) (re:RE K φ H ρ σ) (h:(p ρ A).post (λo A1=>∀φ1 H1,Le K φ H φ1 H1->zu K φ1 A1 H1->Q o H1) (EB K φ H xr))
noncomputable def tP (K:Frag)(x:XR)(p:Po):TO:=λσ H Q=>MP K x p σ H Q
def SP (X:Cx)(x:XR)(e:Option Expr)(p:Po):Prop:=PO X e (tP X.K x p)
def PO.imp {e:Option Expr}{t t':TO}(h:PO X e t)(i:∀σ H Q,t' σ H Q->t σ H Q):PO X e t':=λpins s σ H Q I hw=>h pins s σ H Q I (i σ H Q hw)
end
def Hi (e:Expr):Expr:=match e with
 |.Compare l _ _ _=>l|_=>wD
open Classical in
def Xl (q:Str)(fs:Addr->Fn):Prop:=∀ns:a6,ns.length<=63->∀Pt,∃A,fs Pt [.ref 0] [.ro (ns.map W.int),.tab q Pt]=.ok (.bl true) A
def Iy {y:Str}{l:PySem.W.OpenLaw}{q:Program}{loose:bb}{J:World->Heap->Prop}{d:DefRec}{K:Params->Frag}{Q:Str}{fs:Addr->Fn}(ok:Xl Q fs)
  (hn:l.most=some 63)(B:d.params.defaults=[])(hr:zW k callerA)(hY:∀(w:World)(h:Heap),J w h->(K w.params).In h)(hT:∀(w:World)(h:Heap),J w h->h.get? Pt=some (tabObj #[]))(M:∀p,Yw (K p) y Pt=true)(P:∀p,(K p).lookup Pt=none)
  (F:∀(w:World)(mg:bh)(i:Addr)(h:Heap),(K w.params).In h->h.Ns mainGlobals mg->mg d.name=some (.ref i)->(∃c,tabIn (K w.params) y=some (c,Pt)/\codeHdIn (K w.params) c Pt=true)->
   ∃fd:FuncData,(∀(s:Shared)(u:Value),BindsTo s fd ⟨[u],[]⟩ [(x,u)])/\∀base:Heap,(K w.params).In base->base.Ns mainGlobals mg->BMain mg base->qA l.prog w (K w.params) mg base jS k i fd [x] (yn (K w.params) 1 (fs Pt))):
  PySem.W.WalkO q loose XP J l.row.toRowW d [] (λf vs=>PySem.call f vs):=by
 refine Att.T9 (n:=63) hn B λw L S mg mb i o pm cd doc a vs ns G Y ho hd N t j hints hlen hg=>?_;have X:=hY w _ Y;obtain⟨fd,hb,hF⟩:=F w mg i _ X G.T.g t (W0 (M w.params));obtain⟨c,_,C⟩:=W0 (M w.params);have U:=hT w _ Y;have hc:isCodeTable S.heap Pt:=((codeHd_of_K X C).tab U).isCodeTable;have D:BMain mg S.heap:=by
  obtain⟨bm,ob,b1,b2,I,b4,b5,E⟩:=G.T.bmain;refine⟨bm,ob,b1,b2,λz=>?_,I,b4,b5,E⟩;obtain⟨o,es,ep,e,hd,_⟩:=G.T.g;rw[z,e]at I;cases I;rw[hd]at E;cases E
 refine Rw X G.T.g G.T.b G.T.builtins G.T.nolimit hg j hints (aW hlen (by decide)) hr U (P w.params) hc D hF hb λH h1 h2=>?_
 refine⟨rfl,[a,Pt],[.ro (ns.map W.int),.tab Q Pt],[.ref 0],Sf h1 h2,.one ⟨a,rfl,rfl⟩,?_⟩;obtain⟨A,e⟩:=ok ns hlen Pt;rw[e];exactλZ H' v _ _ r=>r
end Mi
namespace PySem.SeqAt
open PySem
end PySem.SeqAt
namespace Mi
open PySem PySem.Spec PyProof.Rows L2
open PySem.W (KasT kas_rev kas_asc kas_desc kas_tail3 kas_descPart kas_count kas_place kas_bin kas_sort)
open PySem.W (KasT kas_sort kas_ask kat_run kat_snds kat_kind kat_lt kat_cons kat_nil kat_yes kat_no kat_one KatLex KatGo KatTups)
noncomputable def VD (x:Str):It:=⟨λi _=>i<x.cps.size,λi H v h=>h=H/\∃c,x.cps[i]? =some c/\v=.str ⟨#[c]⟩,λi _=>x.cps.size<=i⟩
def PX {K:Frag}(it:Addr)(x:Str)(t:Tok):Turn P w K tg (VD x) [it] it (λi h=>h.IsStrIter it "str_ascii_iterator" x t i) where
 mem:=by simp
 obj:=λi h st b a=>by
  have e:b=it:=by simpa using a
  subst e;obtain⟨o,e,c,d⟩:=st;exact⟨o,e,λv z=>by rw[d]at z;cases z⟩
 keep:=λi h h' ⟨o,e,r⟩ k=>⟨o,k it (by simp) o e,r⟩
 item:=by
  intro X f hw j q i pins s σ H E I hf st g;subst f hw j;have p:x.cps[i]? =some x.cps[i]:=Array.getElem?_eq_getElem g;obtain⟨f0,f1,f2,n,f4,l⟩:=hf it (by simp)
  refine wpAny_pyNext_ascii_item st p λh' S u=>?_;have A:Inv X pins σ H { s with heap:=h',toks:=s.toks+1 }:=I.turned (λb o a e=>(u.2 b a).trans e) f0 f1 n f4 l
  obtain⟨o,e,c,d⟩:=id S;exact⟨_,rfl,QD (s:={ s with heap:=h',toks:=s.toks+1 }) e c d (by decide) ⟨.str ⟨#[x.cps[i]]⟩,H,A,⟨_,rfl⟩,⟨rfl,_,p,rfl⟩,S,λb a=>(hf b a).1⟩⟩
 done:=by
  intro X f hw j q i pins s σ H E I hf st g;subst f hw j;obtain⟨f0,f1,f2,n,f4,l⟩:=hf it (by simp)
  exact wpAny_pyNext_ascii_end (I.ok.hd q) st (Array.getElem?_eq_none g) λh' y=>⟨rfl,I.turned (t':=s.toks) (λb o a e=>y b o a e) f0 f1 n f4 l⟩
 self:=λ_ _ _ _ _ st h=>wpAny_pyIter_striter_ascii st h
noncomputable def Y8 (x:Str):Bool:=x.cps.all (· < 128)
noncomputable def Hn (x:Str):qM:=⟨λ_ i=>some ((x.cps[i]?).map λc=>W.str ⟨#[c]⟩),x.cps.size⟩
section
variable {a b:Expr}{m ma mb:Ev}{K:Frag}
def He (t:TE):TI:=λσ H R=>t σ H λv H1=>∃x,v=.str x/\Y8 x=true/\R (VD x) H1
def Mz {l:Expr}{T:TE}(c:PE X l T):PI X tg l (He T):=by
 intro pins s σ H R I h;refine zw (c pins s σ H _ I h) λv s1 ⟨y,H1,i,r,Q⟩=>?_;obtain⟨x,e,a,q⟩:=Q;subst e;obtain⟨t,rfl⟩:=r;refine wpAny_pyIter_ascii a ?_;refine⟨s1.heap.objs.size,[s1.heap.objs.size],_,_,H1,rfl,i.kept (t':=s1.toks) λb o e=>aa _ e,PX _ x t,⟨_,ah _ rfl,rfl,rfl⟩,λb d=>?_,q⟩;have e:b=s1.heap.objs.size:=by simpa using d
 subst e;exact i.fpOk (ak _) (i.hok.fresh (ak _))
def Vg (m:Ev):Ei:=λρ A=>(m ρ A).bind λw A1=>match w with
 |.str x=>if Y8 x then .ok (Hn x) A1 else .bad|_=>.bad
noncomputable def Y0 (i:Int):Str:=Str.ofString (toString i)
def RJ:jI X (.type "str") (λxs H Q=>∃i:Int,xs=[.int i]/\0<=i/\i<1000/\Q (.str (Y0 i)) H):=by
 intro pins s σ H xs us Q I r h;obtain⟨i,rfl,h0,a,q⟩:=h;obtain⟨u,rfl,t,rfl⟩:=vals1 r;exact str_of_int_fit (N:=1000) (by rw[ag (by omega)];exact a) (by decide) λ_=>⟨.str (Y0 i),H,I.tok _,⟨_,rfl⟩,q⟩
def Zw:W->Hx->R W
 |.int i,A=>if 0<=i/\i<1000 then .ok (.str (Y0 i)) A else .bad|_,_=>.bad
def Rt:jI X (.builtin "len") (λxs H Q=>∃x:Str,xs=[.str x]/\x.length<1000000/\Q (.int x.length) H):=by
 intro pins s σ H xs us Q I r h;obtain⟨x,rfl,a,q⟩:=h;obtain⟨u,rfl,t,rfl⟩:=vals1 r;exact PySem.P.len_str (by omega) ⟨.int x.length,H,I.tok _,⟨_,rfl⟩,q⟩
noncomputable def QC:W->Hx->R W
 |.str x,A=>if x.length<1000000 then .ok (.int x.length) A else .bad|_,_=>.bad
noncomputable def Vw (r:V->List V->Hp->VK->Prop)(to:TE)(t:TA):TE:=λσ H Q=>to σ H λv H1=>∃x,v=.str x/\t σ H1 λxs h=>r v xs h Q
def Zl {o:Expr}{to:TE}{t:TA}{name:Str}{id:String}{r:V->List V->Hp->VK->Prop}(slot:Slot "str" name id)(d:typeOf (.builtin id)=pure (.type "method_descriptor"))(hm:ky X id r)(k:PE X o to)(l:PA X (e::es) t)
  (c:attributeBase o name X.env (eval o X.env)=eval o X.env)
  (w:((backTo cpos (starEach (e::es) X.env)).all (λx=>!x.1)&&(backToKw cpos (keywordEach [] X.env)).all (λx=>x.1.isSome)
   && decide ((e::es).length+([]:bp).length+(if ([]:bp).isEmpty then 0 else 1)<30))=true)
  (b:(apos.endLine==cpos.line)=true)(j:starEach (e::es) X.env=(false,eval e X.env)::starEach es X.env)(n:(backTo cpos (starEach es X.env)).any (·.1)=false):
  PE X (.Call (.Attribute o name apos) (e::es) [] cpos) (Vw r to t):=by
 intro pins s σ H Q I h;refine wpAny_Call_method_late c w b rfl (zw (k pins s σ H _ I h) λv s1 ⟨y,H1,z,g,x,E,i⟩=>?_);subst E;obtain⟨T,rfl⟩:=g;refine⟨"str",id,PySem.F.plainAttrs_str,slot,d,typeIs_str _ _ _,λa p=>(by cases p),?_⟩
 have A:=l cpos pins s1 σ H1 _ z i;rw[j]at A ⊢;refine Calls.callWith_builtin (by show(false || (backTo cpos (starEach es X.env)).any (·.1))=false;rw[n];rfl) (Calls.evalArgs_plain ?_)
 exact zw A λus s2 ⟨vs,B,u,f,q⟩=>hm pins s2 σ B (.str x) vs (.str x T) us Q u ⟨T,rfl⟩ f q
noncomputable def qS (g:W->W->Hx->R W)(a b:Ev):Ev:=λρ A=>(a ρ A).bind λx A1=>match x with
 |.str s=>(b ρ A1).bind λy c=>g (.str s) y c|_=>.bad
def qS.read {r:V->List V->Hp->VK->Prop}(hn:∀x y A,zR (g x y A))(j:qO X.K (λv f=>r v [f]) g)(t:starEach [b] X.env=(false,eval b X.env)::starEach [] X.env):∀σ H Q,tM X.K xr (qS g ma mb) σ H Q->Vw r (tM X.K xr ma) (λσ H Q=>tM X.K xr mb σ H λv o=>Q [v] o) σ H Q:=by
 rintro σ H Q ⟨φ,A,ρ,S,re,h⟩
 refine tM.go S re (zC.mp h) λw A1 d H1 v c l1 l i=>?_;cases w with
 |str x=>
  obtain rfl:=i;refine⟨x,rfl,?_⟩;refine tM.go l (re.mono l1) (zJ (zC.mp c) (λ_ _ z=>z) λ_ _ z=>z.mono l1) λe p a n v2 k l2 s q=>?_;exact j a p n _ v2 (.str x) e Q s rfl q (zJ (we (hn _ _ _) k) (λ_ _ z=>z.mono (l1.trans l2)) λ_ _ z=>z)
 |_=>exact c.elim
noncomputable def strsOf:List W->Option (bb)
 |[]=>some []|.str x::ws=>(strsOf ws).map (x::·)|_::_=>none
theorem W9:∀{ws:List W}{xs:bb},strsOf ws=some xs->ws=xs.map W.str
 |[],_,h=>by cases h;rfl|w::ws,xs,h=>by
  cases w with
  |str x=>
   unfold strsOf at h;cases e:strsOf ws with
   |none=>rw[e]at h;cases h|some ys=>rw[e]at h;cases h;rw[W9 e];rfl
  |_=>cases h
theorem zo.strs:∀{xs:bb}{vs:List V},zo K φ H (xs.map W.str) vs↔vs=xs.map V.str
 |[],_=>Iff.rfl|x::xs,vs=>by
  constructor
  ·rintro⟨v,r,e,h,t⟩
   have h':v=.str x:=h;subst e h';rw[zo.strs.mp t]
   rfl
  ·rintro rfl
   exact⟨.str x,xs.map V.str,rfl,rfl,zo.strs.mpr rfl⟩
theorem Gj:∀{xs:bb}{us:a7},Vals (xs.map V.str) us->∃l:List (Str×Tok),us=strValues l/\l.map (·.1)=xs
 |[],_,h=>⟨[],Vals.zero h,rfl⟩|x::xs,_,.cons r t=>by
  obtain⟨T,rfl⟩:=r;obtain⟨l,rfl,e⟩:=Gj t;exact⟨(x,T)::l,rfl,by rw[aP,e]⟩
theorem W5:∀(l:List (Str×Tok)),Vals ((l.map (·.1)).map V.str) (strValues l)
 |[]=>.nil|p::l=>.cons ⟨p.2,rfl⟩ (W5 l)
noncomputable def rJoin (K:Frag):V->List V->Hp->VK->Prop:=λv vs H Q=>∃sep p xs,v=.str sep/\vs=[.ref p]/\z8 K H p (xs.map V.str)/\JoinOk sep xs=true/\Q (.str (Txt.join sep xs)) H
def OO:ky X "str.join" (rJoin X.K):=by
 intro pins s σ H x vs v us Q I r a h;obtain⟨sep,p,xs,rfl,rfl,e,hok,q⟩:=h;obtain⟨t,rfl⟩:=r;obtain⟨u,rfl,b⟩:=a.one;cases b;obtain⟨i,d,⟨o,k,j,g,n,E⟩,z⟩:=I.list e;obtain⟨l,rfl,f⟩:=Gj d;exact SC.join ⟨o,j,g,k,E⟩ f hok λt' c=>⟨.str _,H,I.tok c,⟨t',rfl⟩,q⟩
def wH:W->W->Hx->R W:=λx y A=>match x,y with
 |.str sep,.ref n=>match A[n]? with
  |some (.lst ws)=>match strsOf ws with
   |some xs=>if JoinOk sep xs then .ok (.str (Txt.join sep xs)) A else .bad|none=>.bad
  |_=>.bad
 |_,_=>.bad
def OF:∀x y A,zR (wH x y A):=λx y A=>by
 unfold wH
 split
 ·split
  ·split
   ·exact j4 qr zT
   ·exact zT
  ·exact zT
 ·exact zT
noncomputable def XQ:V->List V->Hp->VK->Prop:=λv vs H Q=>∃x y,v=.str x/\vs=[.str y]/\Q (.int (Txt.find x y)) H
def NF:ky X "str.find" XQ:=by
 intro pins s σ H x vs v us Q I r a h;obtain⟨x,y,rfl,rfl,q⟩:=h;obtain⟨t,rfl⟩:=r;obtain⟨u,rfl,t',rfl⟩:=a.one;exact SC.find ⟨.int _,H,I.tok _,⟨_,rfl⟩,q⟩
noncomputable def QE:W->W->Hx->R W:=λx y A=>match x,y with
 |.str x,.str y=>.ok (.int (Txt.find x y)) A|_,_=>.bad
def OL:∀x y A,zR (QE x y A):=λx y A=>by
 unfold QE
 split
 ·exact qr
 ·exact zT
def Ni {prog:Program}{A:Around}{y:Str}{t u:Tok}(H:(y.length==0)=false)(a:x.length<=100000)
  (h:∀(l:List (Str×Tok))(k:Nat),l.map (·.1)=Txt.split x y->Q (.ref s.heap.objs.size) { s with heap:=s.heap.push { cls:=.type "list",data:=.seq (strValues l).toArray },toks:=k }):
  wpAny (model prog w) A (call (.builtin "str.split") [.str x t,.str y u]) Q E s:=by
 have z:x.length<=sizeLine:=by rw[sizeLine_eq];omega
 cases h1:(decide (x.length<y.length) || decide (Builtin.Str.strKind x<Builtin.Str.strKind y))
 ·cases hf:(Builtin.Str.occurrences x y 0 x.length (x.length+1)).isEmpty
  ·have e:Txt.split x y=Builtin.Str.partsBetween x (Builtin.Str.occurrences x y 0 x.length (x.length+1)) y.length:=(ag (ne_true_of_eq_false h1)).trans (ag (ne_true_of_eq_false hf))
   have hn:(Builtin.Str.partsBetween x (Builtin.Str.occurrences x y 0 x.length (x.length+1)) y.length).length<=sizeLine:=by
    rw[<- e,sizeLine_eq]
    have:=split_le x y
    omega
   refine call_meets F.slot_str_split (typeIs_str _ _ _) F.entry_str_split (F.args_str_split_2 _ _) (meets_str_split_sep x y t u h1 H hf z hn) ?_;show wants Q E _ { s with toks:=_,heap:=s.heap.push { cls:=.type "list",data:=.seq (strsFrom s.toks (Builtin.Str.partsBetween x (Builtin.Str.occurrences x y 0 x.length (x.length+1)) y.length)).toArray } }
   rw[strsFrom_eq];exact h (numbered s.toks _) _ ((numbered_texts _ _).trans e.symm)
  ·exact call_meets F.slot_str_split (typeIs_str _ _ _) F.entry_str_split (F.args_str_split_2 _ _) (meets_str_split_not_found x y t u h1 H hf)
    (h [(x,t)] s.toks ((ag (ne_true_of_eq_false h1)).trans (af hf)).symm)
 ·exact call_meets F.slot_str_split (typeIs_str _ _ _) F.entry_str_split (F.args_str_split_2 _ _) (meets_str_split_cannot_occur x y t u h1)
   (h [(x,t)] s.toks (af h1).symm)
def Xq:V->List V->Hp->VK->Prop:=λv vs H Q=>∃x y,v=.str x/\vs=[.str y]/\(y.length==0)=false/\x.length<=100000/\∀l,H l=none->Q (.ref l) (upd H l (.lst ((Txt.split x y).map V.str)))
def P5:ky X "str.split" Xq:=by
 intro pins s σ H x vs v us Q I r a h;obtain⟨x,y,rfl,rfl,c,d,q⟩:=h;obtain⟨t,rfl⟩:=r;obtain⟨u,rfl,t',rfl⟩:=a.one;refine Ni c d λl k e=>?_;refine⟨.ref s.heap.objs.size,_,I.laid (t':=k) (o:=.lst ((Txt.split x y).map V.str)) (λb o e=>aa _ e) (ak _) ⟨?_,strValues l,_,by rw[<- e];exact W5 l,ah _ rfl⟩,rfl,q _ (I.hok.fresh (ak _))⟩
 rw[aL,sizeLine_eq]
 have:=split_le x y
 omega
noncomputable def gx:W->W->Hx->R W:=λx y A=>match x,y with
 |.str x,.str y=>if (y.length==0)=false/\x.length<=100000 then .ok (.ref A.length) (A++[.lst ((Txt.split x y).map W.str)]) else .bad|_,_=>.bad
def Pa:∀x y A,zR (gx x y A):=λx y A=>by
 unfold gx
 split
 ·exact j4 qr zT
 ·exact zT
end
def Kf (K:Frag)(x y:Str):Prop:=∃t,nsIn K mainGlobals x=some (some (.str y t))
def M0 {K:Frag}{y:Str}{t:Tok}(a:nsIn K mainGlobals x=some (some (.str y t))):Kf K x y:=⟨t,a⟩
open PySem.W (kas_kind)
section
open PySem.SeqAt
open PySem.AutoSeq1 (wpAny_loadPart')
open PySem.MeetsSeq PySem.MeetsSeq2 PySem.MeetsSeq3
end
def Nm (K:Frag)(x:Str):Prop:=∃f:Addr,nsIn K mainGlobals x=some (some (.ref f))
section
variable {y:Str}{f:Fn}{g:Heap}
def Yn (i:Nat)(x:Str)(f:Fn)(M:Ea):Ev:=λρ A=>match ρ[i]? with
 |some (some (.fn z))=>if z=x then z0 f M ρ A else .bad|_=>.bad
def Oa (P:jO X g xr)(F:zU X.prog X.w X.K X.mg X.base k x n f)(hr:zW k X.A)(ha:SA X xr (e::es) mr)(hl:jV mr n)(hi:X.N[i]? =some y:=by rfl)(t:gL X.env.scope y:=by first|exact Or.inl rfl|exact Or.inr (Or.inl rfl)|exact Or.inr (Or.inr rfl))
  (B:(y==("__debug__":Str))=false:=by decide)(C:(y==("__classdict__":Str))=false:=by decide)(he:starEach (e::es) X.env=(false,eval e X.env)::starEach es X.env:=by rfl)(u:(backTo pos (starEach es X.env)).any (·.1)=false:=by rfl):
  SE X xr (.Call (.Name y p) (e::es) [] pos) (Yn i x f mr):=by
 obtain⟨J,fd,ps,F,hm,hk,hb⟩:=F;intro pins s σ H Q I ⟨φ,A,ρ,S,re,h⟩;unfold Yn at h;cases c:ρ[i]? with
 |none=>rw[c]at h;exact h.elim|some ow=>cases ow with
  |none=>rw[c]at h;exact h.elim|some T=>
   rw[c]at h;cases T with
   |fn z=>
    dsimp only at h
    by_cases l:z=x
    ·rw[af l]at h
     subst l;obtain⟨v,o,a,rfl,hn⟩:=re.get i _ c;have b:=aG I.ok.mod.kin I.ok.mod.glob hn;rw[hm]at b;cases b;refine wpAny_Call_Name_kw (zw (Xt hi t B C pins s σ H (λU H'=>U=.ref J/\H'=H) I ⟨_,o,rfl,rfl⟩) λY s0 ⟨v0,H0,M,Z,e0,e1⟩=>?_);subst e0;subst e1;obtain rfl:Y=Value.ref J:=Z;have h':=zC.mp h;refine callWith_K (h₀:=X.base) M.ok.mod.kin hk (zw (ha pos pins s0 σ H0 (λvs H1=>wY X.K n f (vs++[]) H1 Q (Kd X.K xr)) M ⟨φ,A,ρ,S,re,?_⟩) λus s1 ⟨vs,H1,L,r,q⟩=>⟨L.kIn,?_⟩) he u
     ·cases E:mr ρ A with
      |ok ws A1=>
       rw[E]at h';intro j H1 vs l1 S1 D;have t:vs.length=n:=by rw[<- D.length];exact hl ρ A ws A1 E
       rw[aT];refine⟨t,j,A1,ws,S1,D,zJ h' (λ_ _ z=>z.mono l1) λy A2 z d H2 l2 S2 Ca hC=>?_⟩;exact⟨y,Ca,rfl,hC,z d H2 (l1.trans l2) S2⟩
      |exc y A1=>rw[E]at h';exact h'|bad=>rw[E]at h';exact h'
     ·exact Yz F hr hb .nil P.passes L r q
    ·rw[ag l]at h;exact h.elim
   |_=>exact h.elim
end
def YG (X:Cx):Prop:=∀pins σ H s,Inv X pins σ H s->∀(x:Str)(c:Addr),X.env.cells.lookup x=some c->c∉zK X.stack
def Mv (h:∀x,X.fn x=true):YG X:=λpins σ H s I x c e=>OK I h e
def gz (n:Nat)(q:Str)(Pt:Addr)(idx:ba)(g:Fn):Ev:=λρ A=>match A[n]? with
 |some (.tab Q P')=>if Q=q/\P'=Pt then(match wQ idx ρ with
  |some ws=>g ws A|none=>.bad) else .bad
 |_=>.bad
section
variable {t:Lm}{q:Str}
def Gx (I:Inv X pins σ H s)(C:YG X)(l:QT X.prog X.w X.K X.mg j q t)(x:ZI X t):
  kn X.prog X.w X.K X.mg (yV X.base s.heap X.env.cells) X.A X.stack s H/\∀k,wG X.prog X.w X.K X.mg (yV X.base s.heap X.env.cells) (j+1) (ZL X.env q [t] σ k) (yc [t] k):=by
 have a:∀b o,X.base.get? b=some o->(yV X.base s.heap X.env.cells).get? b=some o:=λb o e=>Sj I.bk e;have M:Mod X.K X.mg (yV X.base s.heap X.env.cells):=by
  obtain⟨d,n,B⟩:=I.mod.blt;exact⟨I.mod.kin.keeps a,I.mod.glob.keeps a,⟨d,n.keeps a,B⟩,I.mod.nolimit.keeps a⟩
 have bs:∀b o,(yV X.base s.heap X.env.cells).get? b=some o->s.heap.get? b=some o/\H b=none:=λb o e=>by
  obtain⟨i,E⟩:=GN e;refine⟨i,?_⟩;rcases E with ⟨o',E⟩|⟨y,E⟩
  ·exact(I.bs b o' E).2
  ·exact I.freeC y b E
 refine⟨⟨I.ok.frames,M,bs,le_of_eq (hideAll_size _ _),frames_at I.stack λb c=>?_,I.stkFree,I.hok,I.bare⟩,
  λk=>Lu (all_cons l all_nil) (λt' f vs h=>Pq I (λy r v e ⟨o,g,hd⟩=>⟨o,Rb e g,hd⟩) (all_cons (p:=ZI X) x all_nil t' f) h) k⟩
 cases e:(yV X.base s.heap X.env.cells).get? b with
 |none=>rfl|some o=>
  exfalso;rcases(GN e).2 with ⟨o',E⟩|⟨y,E⟩
  ·have:=(I.stack.mem c).1
   rw[E]at this;cases this
  ·exact C pins σ H s I y b E c
end
structure wW (K:Frag)(C:Str):Prop where
 at_:qZ K C (.ref (clsAt K C))
 cl:L2.qG K (clsAt K C)
def Y5 (K:Frag)(C:Str):Bool:=isAt K C&&plainGet K (clsAt K C) Str.empty&&hasDictIn K (clsAt K C)&&plainOver K (clsAt K C)&&PySem.W.findIn K (.ref (clsAt K C)) "__setattr__" == some (some (.builtin "object.__setattr__"))
def Mt {K:Frag}{C:Str}(h:Y5 K C=true):wW K C:=by
 unfold Y5 at h;simp only[aq,au]at h;obtain⟨⟨⟨⟨d,c⟩,b⟩,a⟩,H⟩:=h;exact⟨Qj d,c,b,a,H⟩
def Vj (K:Frag)(C f:Str):Bool:=PySem.W.findIn K (.ref (clsAt K C)) f==some none
def Mu {K:Frag}{C f:Str}(h:Vj K C f=true):yR K (clsAt K C) f:=au.mp h
theorem W6 {m:Str}:∀{us:List (Str×V)},(us.map (·.1)).contains m=false->us.lookup m=none
 |[],_=>rfl|(x,v)::us,h=>by
  simp only[aP,List.contains_cons,Bool.or_eq_false_iff]at h;unfold List.lookup;rw[h.1];exact W6 h.2
section
variable {C f:Str}{me mo:Ev}
noncomputable def Kc (C f:Str)(mo:Ev):Ev:=λρ A=>(mo ρ A).bind λw A1=>match w with
 |.ref n=>(match A1[n]? with
  |some (.ins c [(a,v)])=>if c=C/\a=f then .ok v A1 else .bad|_=>.bad)
 |_=>.bad
noncomputable def X9 (C f:Str)(me mo:Ev):Ex:=λρ A=>(me ρ A).bind λv A1=>(mo ρ A1).bind λw a=>match w with
 |.ref n=>(match a[n]? with
  |some (.ins c [])=>if c=C then .ok (.nx ρ) (a.set n (.ins C [(f,v)])) else .bad|_=>.bad)
 |_=>.bad
end
inductive jE (P:Program)(w:World)(K:Frag)(mg:bh)(base:Heap)(k:Nat)(C x:Str)(n:Nat)(f:Fn):Prop
 |mk (fa:Addr) (fd:FuncData) (ps:bb) (F:qA P w K mg base (jR P w) k fa fd ps (wY K n f)) (c:wW K C) (hm:Meth K (clsAt K C) x fa) (bi:Binds K fd ps [])
inductive y7 (P:Program)(w:World)(K:Frag)(mg:bh)(base:Heap)(k:Nat)(C x:Str)(n:Nat)(f:Fn):Prop
 |mk (fa:Addr) (fd:FuncData) (ps:bb) (F:qA P w K mg base jS k fa fd ps (yn K n f)) (c:wW K C) (hm:Meth K (clsAt K C) x fa) (bi:Binds K fd ps [])
section
variable {K:Frag}{C:Str}{f:Fn}
def jE.up (F:jE P w K mg base j C x n f)(h:j<=k:=by decide):jE P w K mg base k C x n f:=by cases F with|mk d fd p F a b c=>exact⟨d,fd,p,F.mono h,a,b,c⟩
def y7.up (F:y7 P w K mg base j C x n f)(h:j<=k:=by decide):y7 P w K mg base k C x n f:=by cases F with|mk d fd p F a b c=>exact⟨d,fd,p,F.mono h,a,b,c⟩
def jE.m (F:jE P w K mg base k C x n f):y7 P w K mg base k C x n λws A=>(f ws A).nox:=by
 obtain⟨i,fd,p,F,hm,c,d⟩:=F;have up:∀vs H Q E,yn K n (λws A=>(f ws A).nox) vs H Q E->wY K n f vs H Q (λ_ _ _=>False):=λvs H Q E ⟨l,φ,A,ws,S,r,h⟩=>⟨l,φ,A,ws,S,r,by
  cases a:f ws A with
  |ok u A1=>(try dsimp only at h);rw[a]at h;exact h|exc y A1=>(try dsimp only at h);rw[a]at h;exact h.elim|bad=>(try dsimp only at h);rw[a]at h;exact h.elim⟩
 refine⟨i,fd,p,⟨λvs H Q E h=>F.len vs H Q _ (up vs H Q E h),λA outer s H args us vs Q E b he t v h=>?_⟩,hm,c,d⟩;refine codeAny_mono (F.run A outer s H args us vs Q _ b he t v (up vs H Q E h)) λr s' h'=>?_;cases r with
 |error e=>
  unfold CR at h';obtain⟨_,_,_,_,_,_,_,_,_,_,z⟩:=h';exact z.elim
 |ok g=>cases g<;>exact h'
def MD (K:Frag)(C x qual:Str)(st:Stmt):Prop:=∃f fd,jj K x qual st f fd/\Meth K (clsAt K C) x f
def Ik {st:Stmt}{f b:Addr}{d:Value}{o an:bq}{kV doc pm v ct:Value}(z:nsIn K mainGlobals C=some (some (.ref b)))(a:PySem.W.findIn K (.ref b) x=some (some (.ref f)))(i:isFn K (.ref f)=true)
  (l:K.lookup f=some ⟨d,o,.func (fnOf x qual (kf st) (jx st) (zH st) .none kV doc pm an v ct),osl⟩)(c:codeIn K v qual=true)(k:keepIn K (.ref f)=true):MD K C x qual st:=by
 cases wg z;exact⟨f,_,XB l c k,a,i,k⟩
def Je (K:Frag)(C:Str):Bool:=makesIn K (clsAt K C)&&keepIn K (.ref (clsAt K C))
end
def qB (C x:Str)(f:Fn)(mo:Ev)(M:Ea):Ev:=λρ A=>(mo ρ A).bind λo A1=>match o with
 |.ref n=>(match A1[n]? with
  |some (.ins c fs)=>if c=C/\(fs.map (·.1)).contains x=false then(M ρ A1).bind λws a=>f (.ref n::ws) a else .bad|_=>.bad)
 |_=>.bad
section
variable {g:Heap}{C:Str}{mo:Ev}{f:Fn}
def qB.read {sp:Sp}{E:XK}(I:jV mr j)(hn:j+1=n)(p:∀φ A H ws vs Q,zu X.K φ A H->zo X.K φ H ws vs->vs.length=n->(f ws A).post (PB X.K φ H Q) (EB X.K φ H xr)->sp vs H Q E):
  ∀σ H Q,tM X.K xr (qB C x f mo mr) σ H Q->XO (clsAt X.K C) x sp [] E (tM X.K xr mo) (ZQ X.K xr mr) σ H Q:=by
 rintro σ H Q ⟨φ,A,ρ,S,re,h⟩
 refine tM.go S re (zC.mp h) λw A1 k H1 v b l1 u B=>?_;cases w with
 |ref i=>
  dsimp only at b;cases d:A1[i]? with
  |none=>rw[d]at b;exact b.elim|some ob=>cases ob with
   |ins T fs=>
    rw[d]at b;dsimp only at b
    by_cases o:T=C/\(fs.map (·.1)).contains x=false
    ·rw[af o]at b
     obtain⟨rfl,D⟩:=o;obtain⟨a,t,Z,M,us,l,L,J,U⟩:=u.ob i _ d;obtain⟨Y,rfl,e⟩:=B;rw[t]at e;cases e;cases wg l;refine⟨a,M,us,rfl,L,W6 (by rw[J];exact D),k,A1,ρ,u,re.mono l1,?_⟩
     have c:=zC.mp b;cases r:mr ρ A1 with
     |ok ws q=>
      rw[r]at c;intro g P vs l2 N s;rw[aT];exact p g q P (.ref i::ws) _ _ N (.cons ⟨a,rfl,l2.ex _ _ t⟩ s) (by rw[aU,<- s.length,I ρ A1 ws q r];exact hn) (zJ c (λ_ _ z=>z.mono (l1.trans l2)) λ_ _ z=>z.mono (l1.trans l2))
     |exc y q=>rw[r]at c;exact c.mono l1|bad=>rw[r]at c;exact c
    ·rw[ag o]at b;exact b.elim
   |_=>rw[d]at b;exact b.elim
 |_=>exact b.elim
def M5 (φ:a8)(A:Hx)(H:Hp)(ws:List W)(vs:List V)(Q:VK)(S:zu X.K φ A H)(r:zo X.K φ H ws vs)(l:vs.length=n)(h:(f ws A).post (PB X.K φ H Q) (EB X.K φ H xr)):wY X.K n f vs H Q (Kd X.K xr):=
 ⟨l,φ,A,ws,S,r,zJ h (λ_ _ z=>z) λy d z a b l3 s c C=>⟨y,c,rfl,C,z a b l3 s⟩⟩
def Mq (φ:a8)(A:Hx)(H:Hp)(ws:List W)(vs:List V)(Q:VK)(S:zu X.K φ A H)(r:zo X.K φ H ws vs)(l:vs.length=n)(h:(f ws A).post (PB X.K φ H Q) (EB X.K φ H qx)):yn X.K n f vs H Q E0:=
 ⟨l,φ,A,ws,S,r,zJ h (λ_ _ z=>z) λy c z a b l3 s=>(z a b l3 s).elim⟩
noncomputable def YN (C:Str)(f:Fn):Ev:=λ_ A=>(f [.ref A.length] (A++[.ins C []])).bind λw A1=>match w with
 |.non=>.ok (.ref A.length) A1|_=>.bad
def Qs (i:Nat)(fs:List (Str×Fn))(M:Ea):Ev:=λρ A=>match ρ[i]? with
 |some (some (.fn z))=>(match fs.lookup z with
  |some f=>z0 f M ρ A|none=>.bad)
 |_=>.bad
theorem GA {z:Str}{f:α}:∀{fs:List (Str×α)},fs.lookup z=some f->(z,f)∈fs
 |[],h=>by cases h|(x,g)::fs,h=>by
  unfold List.lookup at h;cases e:z==x with
  |true=>rw[e]at h;cases h;rw[au.mp e];exact aA ..|false=>rw[e]at h;exact av _ (GA h)
end
def ZN (K:Frag)(x:Str)(w:W):Prop:=∃a:Addr,nsIn K mainGlobals x=some (some (.ref a))/\∀φ H,RV K φ H w (.ref a)
def Mw {K:Frag}{I i:Array Value}{N:Nat}{S s:Array (Option Value)}{t:Tok}(z:nsIn K mainGlobals x=some (some (.ref a)))(l:K.lookup a=some ⟨.type "tuple",none,.seq I n,S⟩)(e:I.toList=[.ref b])
  (l2:K.lookup b=some ⟨.type "tuple",none,.seq i N,s⟩)(E:i.toList=[.int 0 t]):ZN K x (.tup [.tup [.int 0]]):=by
 have sz:∀{A:Array Value}{v:Value},A.toList=[v]->A.size<=sizeLine:=λ {A v} h=>by rw[<- length_toList,h,sizeLine_eq];simp
 refine⟨a,z,λφ H=>⟨a,[.ref b],rfl,.inr ⟨_,I,n,l,⟨rfl,rfl⟩,rfl,sz e,by rw[e];exact .cons rfl .nil⟩,.one ⟨b,[.int 0],rfl,.inr ⟨_,i,N,l2,⟨rfl,rfl⟩,rfl,sz E,by rw[E];exact .cons ⟨t,rfl⟩ .nil⟩,.one rfl⟩⟩⟩
noncomputable def RK (K:Frag):W->Value->Prop
 |.int i,v=>∃t,v=.int i t|.fn y,v=>∃a:Addr,v=.ref a/\nsIn K mainGlobals y=some (some (.ref a))|_,_=>False
structure Jg (K:Frag)(d:Addr)(D:List (Str×W)):Prop where
 ns:(d==sysModules)=false
 ex:∃o es ep,K.lookup d=some o/\o.ExactDict/\o.data=.dict es ep/\KTD.Rows (RK K) es.toList D
def GD (K:Frag)(x:Str)(D:List (Str×W)):Prop:=∃d:Addr,nsIn K mainGlobals x=some (some (.ref d))/\Jg K d D
noncomputable def Q9 (K:Frag)(w:W)(v:Value):Bool:=match w,v with
 |.int i,.int j _=>j==i|.fn y,.ref a=>nsIn K mainGlobals y==some (some (.ref a))|_,_=>false
def Qx (K:Frag):List DictEntry->List (Str×W)->Bool
 |[],[]=>true|e::es,(x,w)::D=>(match e.key with
  |.str y _=>y==x|_=>false)&&Q9 K w e.val&&Qx K es D
 |_,_=>false
def ZP (K:Frag)(x:Str)(D:List (Str×W)):Bool:=match nsIn K mainGlobals x with
 |some (some (.ref d))=>(match K.lookup d with
  |some o=>(match o.data with
   |.dict e _=>(d==sysModules)==false&&o.cls==.type "dict" && o.dict.isNone&&o.slots.isEmpty&&Qx K e.toList D
   |_=>false)
  |none=>false)
 |_=>false
def Im {K:Frag}{w:W}{v:Value}(h:Q9 K w v=true):RK K w v:=by
 unfold Q9 at h
 split at h
 ·exact⟨_,by rw[au.mp h]⟩
 ·exact⟨_,rfl,au.mp h⟩
 ·cases h
theorem G7 {K:Frag}:∀{E:List DictEntry}{D:List (Str×W)},Qx K E D=true->KTD.Rows (RK K) E D
 |[],[],_=>.nil|e::E,(x,w)::D,h=>by
  have h':((match e.key with
   |.str y _=>y==x|_=>false)&&Q9 K w e.val&&Qx K E D)=true:=h
  simp only[aq]at h';obtain⟨⟨H,b⟩,a⟩:=h'
  split at H
  ·rename_i y t k
   exact .cons (by rw[k,au.mp H]) (Im b) (G7 a)
  ·cases H
 |[],_::_,h=>by cases h|_::_,[],h=>by cases h
def YO {K:Frag}{D:List (Str×W)}(h:ZP K x D=true):GD K x D:=by
 unfold ZP at h
 split at h
 ·rename_i d hd
  split at h
  ·rename_i o H
   split at h
   ·rename_i E p he
    simp only[aq,au]at h;obtain⟨⟨⟨⟨f,e⟩,c⟩,b⟩,a⟩:=h;exact⟨d,hd,f,o,E,p,H,⟨e,Option.isNone_iff_eq_none.mp c,Array.isEmpty_iff.mp b⟩,he,G7 a⟩
   ·cases h
  ·cases h
 ·cases h
def GD.nm {K:Frag}{D:List (Str×W)}(h:GD K x D):Nm K x:=let ⟨d,e,_⟩:=h;⟨d,e⟩
section
variable {a b:Expr}{m:Ev}{w:W}{D:List (Str×W)}{d:Addr}{A:Around}{k:Str}{tk:Tok}
def Yu {Q:Option Value->Shared->Prop}(G:Jg X.K d D)(I:Inv X pins σ H s)(g:∀w v,KTD.datumAt k D=some w->RK X.K w v->Q (some v) { s with toks:=s.toks+1 })(f:KTD.datumAt k D=none->Q none { s with toks:=s.toks+1 }):
  wpAny (model X.prog X.w) A (dictGet d (.str k tk)) Q E s:=by
 obtain⟨_,o,b,p,a,j,hd,r⟩:=G;have a:=I.kIn _ _ a;unfold dictGet
 try with_reducible refine wpAny_holding ?_
 refine bt (wpAny_pyHash_str (bt (KTD.kt_dictFind_strs (s:={ s with toks:=s.toks+1 }) a hd (by rw[<- Array.all_toList];exact r.exact) ?_)))
 have hf:findBy (λk v=>v.isStr k) b k=(b.toList.find? λe=>e.key.isStr k).map (·.val):=by
  unfold findBy;rw[Array.find?_toList]
 have q:Q (findBy (λk v=>v.isStr k) b k) { s with toks:=s.toks+1 }:=by
  rw[hf];cases h:KTD.datumAt k D with
  |none=>rw[r.find_none h];exact f h|some w=>obtain⟨v,c,hw⟩:=r.find_some h;rw[c];exact g w v h hw
 rw[findBy_of_findIdx?]at q;cases hi:b.findIdx? λe=>e.key.isStr k with
 |none=>rw[hi]at q;exact bw q|some i=>rw[hi]at q;exact bt (wpAny_dictEntries (s:={ s with toks:=s.toks+1 }) a hd (bw q))
def QF (G:Jg X.K d D)(I:Inv X pins σ H s):s.TypeIs (.ref d) "dict" /\ ∀b,Value.ref d=.ref b->∃ob,s.heap.get? b=some ob/\ob.dict=none:=by
 obtain⟨_,o,E,p,h,c,_⟩:=G;exact⟨⟨o,I.kIn _ _ h,c.1⟩,λb e=>by cases e;exact⟨o,I.kIn _ _ h,c.2.1⟩⟩
def Xs {v:Value}(h:RK X.K w v):∃z:V,RelV z v/\∀φ H,RV X.K φ H w z:=by
 cases w with
 |int i=>obtain⟨t,rfl⟩:=h;exact⟨.int i,⟨t,rfl⟩,λ_ _=>rfl⟩|fn y=>obtain⟨a,rfl,hn⟩:=h;exact⟨.ref a,rfl,λ_ _=>⟨a,rfl,hn⟩⟩|_=>exact h.elim
noncomputable def QA (D:List (Str×W)):W->Hx->R W
 |.str k,A=>(match KTD.datumAt k D with
  |some w=>.ok w A|none=>.bad)
 |_,_=>.bad
noncomputable def QK (x:Str)(D:List (Str×W)):W->W->Hx->R W:=λu v A=>match u,v with
 |.str k,.fn y=>if y=x then .ok (.bl (KTD.inKeys k D)) A else .bad|_,_=>.bad
def LD (G:GD X.K x D):QQ X .In (QK x D):=by
 obtain⟨d,hn,G⟩:=G;refine⟨λx y H Q=>∃k,x=.str k/\y=.ref d/\Q (.bl (KTD.inKeys k D)) H,?_,?_,?_⟩
 ·intro pins s σ H x y v u Q I e r h
  obtain⟨k,rfl,rfl,q⟩:=h;obtain⟨t,rfl⟩:=e;cases r;obtain⟨ty,nd⟩:=QF G I;have fin:EP X pins σ Q (.bool (KTD.inKeys k D)) { s with toks:=s.toks+1 }:=⟨.bl _,H,I.tok _,rfl,q⟩
  show wpAny _ _ (do return Value.bool (<- contains (.ref d) (.str k t))) _ _ s
  refine bt ?_;unfold contains
  try with_reducible refine wpAny_holding ?_
  refine bt (wpAny_specialOf ty slot_dict_contains.lookup ?_);show wpAny _ _ (if (some (Value.builtin "dict.__contains__")==some Value.none)=true then _ else _) _ _ s;rw[ag (by rw[beq_builtin_none];exact ao)]
  refine bt (wpAny_callSpecialUnlessNone?_slot (name:=Str.ofString "__contains__") ty slot_dict_contains (wpAny_call_entry slot_dict_contains ty entry_dict_contains ?_ (args_dict_contains _ _)));show wpAny _ _ (dictGet d (.str k t) >>= _) _ _ s;rw[<- KTD.isSome_datumAt]at fin;refine bt (Yu G I (λw v b _=>?_) λhn=>?_)
  ·rw[b]at fin
   show wpAny _ _ (ret (.bool true)) _ _ _;exact bw ⟨_,rfl,wpAny_truthy_bool (bw fin)⟩
  ·rw[hn]at fin
   show wpAny _ _ (Builtin.Dict.pendingKey? d (.str k t) >>= _) _ _ _;exact bt (wpAny_pendingKey_other G.ns (bw ⟨_,rfl,wpAny_truthy_bool (bw fin)⟩))
 ·intro u v A
  unfold QK
  split
  ·exact j4 qr zT
  ·exact zT
 ·intro φ A H i y u v Q S g f p
  unfold QK at p
  split at p
  ·rename_i k z
   obtain rfl:=g;obtain⟨a,rfl,b⟩:=f
   by_cases c:z=x
   ·rw[af c]at p
    subst c;rw[hn]at b;cases b;exact⟨k,rfl,rfl,p φ H _ .refl S rfl⟩
   ·rw[ag c]at p;exact p.elim
  ·exact p.elim
def R5 {t:Tok}(G:Jg X.K d D):MeetsIn X.prog X.w (Builtin.«dict.get» ⟨[.ref d,.str k t],[]⟩) (λ_ R s=>(∃pins σ H,Inv X pins σ H s)/\(∀w v,KTD.datumAt k D=some w->RK X.K w v->R (.ok (.ret v)) { s with toks:=s.toks+1 })/\(KTD.datumAt k D=none->R (.ok (.ret .none)) { s with toks:=s.toks+1 })):=
 .of_wp λA R s ⟨⟨_,_,_,I⟩,c,b⟩=>by
  show wpAny _ _ (dictGet d (.str k t) >>= _) _ _ s;refine bt (Yu G I (λw v a h=>bw ⟨v,rfl,c w v a h⟩) λhn=>?_);show wpAny _ _ (Builtin.Dict.missed d (.str k t) >>= _) _ _ _;exact bt (wpAny_missed_other G.ns (bw ⟨.none,rfl,b hn⟩))
noncomputable def XW (D:List (Str×W)):W->Hx->R W
 |.str k,A=>.ok ((KTD.datumAt k D).getD .non) A|_,_=>.bad
noncomputable def G4:V->List V->Hp->VK->Prop:=λv vs H Q=>∃x y,v=.str x/\vs=[.str y]/\Q (.bl (Txt.startswith x y)) H
def RC:ky X "str.startswith" G4:=by
 intro pins s σ H x vs v us Q I r a h;obtain⟨x,y,rfl,rfl,q⟩:=h;obtain⟨t,rfl⟩:=r;obtain⟨u,rfl,t',rfl⟩:=a.one;exact SC.startswith ⟨.bl _,H,I,rfl,q⟩
noncomputable def w8:W->W->Hx->R W:=λx y A=>match x,y with
 |.str x,.str y=>.ok (.bl (Txt.startswith x y)) A|_,_=>.bad
def Rx:∀x y A,zR (w8 x y A):=λx y A=>by
 unfold w8
 split
 ·exact qr
 ·exact zT
noncomputable def GU:V->List V->Hp->VK->Prop:=λv vs H Q=>∃x y,v=.str x/\vs=[.str y]/\x.length<=100000/\Q (.str (Txt.removeprefix x y)) H
def Rz:ky X "str.removeprefix" GU:=by
 intro pins s σ H x vs v us Q I r a h;obtain⟨x,y,rfl,rfl,z,q⟩:=h;obtain⟨t,rfl⟩:=r;obtain⟨u,rfl,t',rfl⟩:=a.one;exact SC.removeprefix (λt' k=>⟨.str _,H,I.tok k,⟨t',rfl⟩,q⟩) (by rw[sizeLine_eq];omega)
noncomputable def gX:W->W->Hx->R W:=λx y A=>match x,y with
 |.str x,.str y=>if x.length<=100000 then .ok (.str (Txt.removeprefix x y)) A else .bad|_,_=>.bad
def R0:∀x y A,zR (gX x y A):=λx y A=>by
 unfold gX
 split
 ·exact j4 qr zT
 ·exact zT
def Iz (K:Frag)(t:kF):TG:=λv σ H Q=>∃a x xs,v=.ref a/\z8 K H a (x::xs)/\xs.length<=10000/\∀l,H l=none->t [x,.ref l] σ (upd H l (.lst xs)) Q
def OQ {k:Nat}{t:kF}(Z:X.calm=true)(h:gK X es t)
  (hn:(assignEach es X.env).length=2:=by rfl)(q:(assignEach es X.env).findIdx? (·.1)=some 1:=by rfl):PG X (.Tuple es k pos) (Iz X.K t):=by
 intro pins s σ H v u Q I r hw;obtain⟨a,x,xs,E,N,hl,hw⟩:=hw;subst E;cases r;obtain⟨p,C,pl,hz⟩:=I.list N;obtain⟨g,rest,rfl,D,rt⟩:∃g rest,p=g::rest/\RelV x g/\Vals xs rest:=by cases C with|cons a b=>exact⟨_,_,rfl,a,b⟩
 have M:rest.length=xs.length:=rt.length.symm;have L:=pl.isList;have c:a≠s.heap.objs.size:=by obtain⟨o,P,_⟩:=L;exact az (aw P)
 have Y:=I.ok.hd Z;rw[assign_Tuple];refine bt (wpAny_standAt ?_);unfold unpack;rw[hn,q];refine bt (wpAny_holding ?_);unfold unpackItems;refine bt ?_;unfold notIterableAtAll;refine bt (wpAny_specialOf L.typeIs slot_list_iter.lookup (bw ?_));simp only[Bool.false_eq_true,if_false];refine bt (wpAny_holding (wpAny_pyIter_list L ?_));refine bt (wpAny_holding (PySem.W.kun_draw c 1 0 _ _ ⟨_,ah _ rfl,rfl,rfl⟩ (L.push _) (by simp) λz i S=>?_))
 have l:z.IsList a _:=(L.push _).extBut S.extBut c;obtain⟨oi,y,_⟩:=id i;obtain⟨ol,w,_⟩:=id l;show wpAny _ _ (if ([g]:a7).length<1 then _ else _) _ _ _;rw[ag (by simp)]
 refine bt (wpAny_holding (PySem.W.kun_collect (s:={ s with heap:=z }) (T := "list_iterator") (.inr (.inr (.inl rfl))) (Walks.list (A:=X.A.in1) Y s.heap.objs.size a c _) (λj u st=>st.1.typeIs) (k:=1) (by simp) ⟨i,l⟩ (aw y) (aw w) (λf n U=>?_) (by rw[sizeLine_eq];simp;omega)))
 show wpAny _ _ (if rest.length<2-1-1 then _ else _) _ _ _;rw[ag (by omega)]
 show wpAny _ _ (newList (rest.take (rest.length-(2-1-1))) >>= λd=>pure ([g]++[d]++rest.drop (rest.length-(2-1-1)))) _ _ _;have E:rest.take (rest.length-(2-1-1))=rest:=List.take_of_length_le (by omega)
 have e2:rest.drop (rest.length-(2-1-1))=[]:=List.drop_of_length_le (by omega)
 rw[E,e2];have J:∀b o,s.heap.get? b=some o->f.get? b=some o:=λb o e=>by
  have nb:b≠s.heap.objs.size:=az (aw e);exact U b o nb (S.extBut b o nb (aa _ e))
 have B:Inv X pins σ H { s with heap:=f,toks:=n }:=I.kept (t':=n) J
 refine bt (wpAny_newList ?_ (by rw[sizeLine_eq];omega))
 refine bw ?_;have hf:H f.objs.size=none:=B.hok.fresh (ak _);have I3:=B.laid (a:=f.objs.size) (o:=.lst xs) (h':=f.push { cls:=.type "list",data:=.seq rest.toArray }) (t':=n) (λb u e=>aa _ e) (ak _) ⟨by rw[sizeLine_eq];omega,rest,0,rt,ah _ rfl⟩
 exact h pins _ σ _ [x,.ref f.objs.size] _ Q I3 (.cons D (.cons rfl .nil)) (hw _ hf)
noncomputable def X0 (i j:Nat)(m:Ev):Ex:=λρ A=>(m ρ A).bind λw A1=>match w with
 |.ref n=>(match A1[n]? with
  |some (.lst (x::xs))=>if xs.length<=10000 then .ok (.nx ((ρ.set i (some x)).set j (some (.ref A1.length)))) (A1++[.lst xs]) else .bad|_=>.bad)
 |_=>.bad
end
noncomputable def Y6 (st:Stmt)(j:Nat):Stmt:=match st with
 |.ClassDef _ _ _ body _ _ _ _ _ _ _=>body.getD j (.Pass ⟨0,0,0,0⟩)|_=>.Pass ⟨0,0,0,0⟩
def yj (f:Fn):Fn:=λus A=>if qI us then(match f us [] with
 |.ok w _=>if w.nr then .ok w A else .bad|.exc x _=>.exc x A|.bad=>.bad) else f us A
def zU.iso {K:Frag}{f:Fn}(F:zU P w K mg base k x n f):zU P w K mg base k x n (yj f):=by
 obtain⟨g,fd,p,F,a,b,c⟩:=F;refine⟨g,fd,p,F.imp λvs H Q E ⟨h,φ,A,ws,S,r,q⟩=>?_,a,b,c⟩;unfold yj at q
 by_cases hn:qI ws=true
 ·rw[af hn]at q
  refine⟨h,[],[],ws,zu.none,r.nrm (λ_ _ t=>t) (λ_ _ _ t=>t) hn,?_⟩;cases hf:f ws [] with
  |ok w A1=>
   rw[hf]at q;dsimp only at q;intro d H1 v l1 s e
   by_cases hw:w.nr=true
   ·rw[af hw]at q
    obtain⟨l,kk⟩:=l1.apart (φ:=φ);exact q φ H1 v l (S.frame kk l) (RV.nrm (λ_ _ t=>t) (λ_ _ _ t=>t) hw e)
   ·rw[ag hw]at q;exact q.elim
  |exc y A1=>
   rw[hf]at q;intro d H1 l1 s;obtain⟨l,kk⟩:=l1.apart (φ:=φ);exact q φ H1 l (S.frame kk l)
  |bad=>rw[hf]at q;exact q.elim
 ·rw[ag hn]at q
  exact⟨h,φ,A,ws,S,r,q⟩
section
variable {m:Ev}
def wF (m:Ev)(pl pu:Po):Ev:=λρ A=>(m ρ A).bind λw A1=>(pl ρ A1).bind λl b=>(pu ρ b).bind λu a=>match w with
 |.ref n=>match a[n]? with
  |some (.ro ws)=>.ok (.ref a.length) (a++[.lst (ZF ws l u)])|_=>.bad
 |_=>.bad
end
@[irreducible] noncomputable def Jk (X:Cx)(x:XR)(e:bf)(ms:List Ev):Prop:=Mi.SJ X x e ms
def Xh:@Jk=@Mi.SJ:=by
 funext X xr es ms
 unfold Jk
 rfl
section
def jh:@zj=@Mi.SE/\@jD=@Mi.SA/\@qX=@Mi.ST/\@yq=@Mi.SW/\@jf=@Mi.SS/\@jt=@Mi.gN/\@jF=@Mi.SI/\@jZ=@Mi.SG/\@kA=@Mi.SF/\@yG=@Mi.SQ/\@yF=@Mi.ZM/\@ym=@Mi.SM/\@Jk=@Mi.SJ:=⟨Qr,Yv,Yo,YC,Yq,Yk,Yp,YH,YJ,YE,Yd,Ys,Xh⟩
def yK {g:Heap}{f:Fn}(o:jO X g xr)(F:zU X.prog X.w X.K X.mg X.base k x n f)(r:zW k X.A)(t:jD X xr (e::es) mr)(d:jV mr n:=by repeat' (first|exact zN|refine zp ?_))(j:Gl X x:=by rfl)
  (c:(x==("__debug__":Str))=false:=by decide)(he:starEach (e::es) X.env=(false,eval e X.env)::starEach es X.env:=by rfl)(l:(backTo pos (starEach es X.env)).any (·.1)=false:=by rfl):
  zj X xr (.Call (.Name x p) (e::es) [] pos) (z0 f mr):=by
 try simp only[jh]at*
 obtain⟨J,fd,P,F,hm,i,s⟩:=F;refine PE.imp (G2 F r j hm i s .nil o.passes t c he l) λσ H Q ⟨φ,A,ρ,S,re,h⟩=>?_;have h':=zC.mp h;refine⟨φ,A,ρ,S,re,?_⟩;cases E:mr ρ A with
 |ok ws A1=>
  rw[E]at h';intro b H1 vs l1 B q;have v:vs.length=n:=by rw[<- q.length];exact d ρ A ws A1 E
  rw[aT];refine⟨v,b,A1,ws,B,q,zJ h' (λ_ _ z=>z.mono l1) λy L z a D l2 u I C=>?_⟩;exact⟨y,I,rfl,C,z a D (l1.trans l2) u⟩
 |exc y A1=>rw[E]at h';exact h'|bad=>rw[E]at h';exact h'
def G9 {m:Ev}(h:zj X.nox qx e m):zj X xr e λρ A=>(m ρ A).nox:=by
 try simp only[jh]at*
 refine PE.imp (PE.nox h) λσ H Q ⟨φ,A,ρ,S,re,q⟩=>⟨φ,A,ρ,S,re,?_⟩;cases E:m ρ A with
 |ok w A1=>(try dsimp only at q);rw[E]at q;exact q|exc y A1=>(try dsimp only at q);rw[E]at q;exact q.elim|bad=>(try dsimp only at q);rw[E]at q;exact q.elim
def yO {m:Ev}(h:qX X.nox qx e m):qX X xr e λρ A=>(m ρ A).nox:=by
 try simp only[jh]at*
 refine PT.imp (PT.nox h) λσ H Q ⟨φ,A,ρ,S,re,q⟩=>⟨φ,A,ρ,S,re,?_⟩;cases E:m ρ A with
 |ok w A1=>(try dsimp only at q);rw[E]at q;exact q|exc y A1=>(try dsimp only at q);rw[E]at q;exact q.elim|bad=>(try dsimp only at q);rw[E]at q;exact q.elim
def ka {M:Ex}{s:br}(h:jt X.nox qx s M):jt X xr s λρ A=>(M ρ A).nox:=by
 try simp only[jh]at*
 refine jb.imp (jb.nox h) λD σ H ⟨φ,A,ρ,S,re,q⟩=>⟨φ,A,ρ,S,re,?_⟩;cases e:M ρ A with
 |ok w A1=>(try dsimp only at q);rw[e]at q;exact q|exc y A1=>(try dsimp only at q);rw[e]at q;exact q.elim|bad=>(try dsimp only at q);rw[e]at q;exact q.elim
def k9 {g:Heap}{top:Str}{np:Pos}(o:jO X g xr)(c:JW X.K top x)(d:jD X xr (e::es) mr)(l:jV mr n:=by repeat' (first|exact zN|refine zp ?_))(hn:n<=sizeLine:=by decide)(a:Gl X x:=by rfl)(h:X.calm=true:=by rfl)
  (b:(x==("__debug__":Str))=false:=by decide)(he:starEach (e::es) X.env=(false,eval e X.env)::starEach es X.env:=by rfl)(H:(backTo cpos (starEach es X.env)).any (·.1)=false:=by rfl):
  jf X xr (.Raise (some (.Call (.Name x np) (e::es) [] cpos)) none pos) (kg x mr):=by
 try simp only[jh]at*
 exact Ol o c.at_ c.exc PySem.F.excBase_ValueError d l hn a h b he H
def yC {K:Frag}{st:Stmt}{m:Ex}(F:jj K x x st f fd)(hm:mg x=some (.ref f))(S:zV N ps (zH st))
  (j:∀(kV doc pm:Value)(an:bq)(c ct:Value)(us:a7),us.length=ps.length->bindArgs (fnOf x x (kf st) (jx st) (zH st) .none kV doc pm an c ct) ⟨us,[]⟩=pure (ps.zip us))
  (a:∀(c:Value)(A:Around)(outer:bj)(s:Shared)(H:Hp)(E:XK),zW k (A.deeper (envOfC x (zH st) s.heap.objs.size f c))->
   jO (jA (jR P w) P w K mg base N x (zH st) f c A outer s H E) s.heap (yg K E)->jt (jA (jR P w) P w K mg base N x (zH st) f c A outer s H E) (yg K E) (jx st) m):
  zU P w K mg base (k+1) x ps.length (qU N.length m):=by
 try simp only[jh]at*
 refine⟨f,fd,ps,?_,hm,F.kp,F.binds j⟩;obtain⟨z,v,kV,doc,pm,an,c,ct,o,rfl,lk,d⟩:=F.ex;refine Qz lk d S (λvs H Q E h=>h.len) λA outer s H vs Q E i ⟨B,φ,A1,ws,p,r,h⟩=>⟨_,a c A outer s H E i Vc,?_⟩;refine⟨φ,A1,ws.map some++List.replicate (N.length-ws.length) none,p,RE.start r,?_⟩;have h':=zC.mp h;show R.post _ (FB K φ H _) _;cases e:m (ws.map some++List.replicate (N.length-ws.length) none) A1 with
 |ok n u=>
  rw[e]at h';cases n with
  |rt w=>exact h'|nx ρ=>exactλb t g l q _=>h' b t .non l q rfl|bk ρ=>exact h'.elim|ct ρ=>exact h'.elim
 |exc y u=>rw[e]at h';exact h'|bad=>rw[e]at h';exact h'.elim
def ND {L:Addr}{l:Nat}{n:Str}{y:Str}{Z:Str}{cs:bb}{PG:Nat->Obj->Addr->Obj->List V->Prop}{lam:Nat->Fn}{U:a7}{newD:String}{np:Pos}{cp:Pos}{ep:Pos}{dp:Pos}{yp:Pos}{J:Pos}{ap:Pos}{hp:Pos}(hL:∀k,wG X.prog X.w X.K X.mg X.base kk (PG k) (lam k))(hr:zW kk X.A)(hst:X.stack=X.env::X.outer)(hFr:X.env.frame=some L)(hD:qZ X.K Z (.ref D))(exD:Mi.yB X.K D U newD=true)(hbD:U.contains (.type "BaseException")=true)
  (hcs:∀c,cs.contains c=true->∀C,qZ X.K c (.ref C)->∃B f,Mi.yB X.K C B f=true/\wL X.K C D=true)
  (hN:X.N.Nodup)(hi:X.N[i]? =some x)(hx:X.env.scope.names.lookup x=some .local)(hl:X.N[l]? =some n)(hn:X.env.scope.names.lookup n=some .local)(hj:X.N[j]? =some y)(hy:X.env.scope.names.lookup y=some .local)
  (hg:Gl X Z)(hs1:swapsWith (.Call (.Name x np) [] [] cp) none ep.line X.env=pure false:=by rfl)(hs2:swapsWith (.Name n J) (some (.Name y yp)) ap.line X.env=pure false:=by rfl)
  (hdx:(x==("__debug__":Str))=false:=by decide)(hdn:(n==("__debug__":Str))=false:=by decide)(hdD:(Z==("__debug__":Str))=false:=by decide):
  jf X xr (.Try [.Expr (.Call (.Name x np) [] [] cp) ep] [.ExceptHandler (some (.Name Z dp)) (some n) [.Assign [.Name y yp] (.Name n J) ap] hp] [] [] pos) (ZC i j l cs PG lam):=by
 try simp only[jh]at*
 intro pins s σ H D0 I ⟨φ,A,ρ,S,re,h⟩;unfold ZC QU at h;cases ei:ρ[i]? with
 |none=>rw[ei]at h;exact h.elim|some ow=>
  cases ow with
  |none=>rw[ei]at h;exact h.elim|some w=>
   rw[ei]at h;cases w with
   |clo k ws P=>
    dsimp only at h
    by_cases hP:P=PG k
    ·rw[af hP]at h
     subst hP;obtain⟨v,hv,a,ob,u,c,oc,uc,vs,rfl,h1,h2,hp',rvs⟩:=re.get i _ ei;obtain⟨⟨fd0,hfd⟩,fd,F,hb⟩:=hL k a ob u c oc uc vs hp';have ho:s.heap.get? a=some ob:=(show qd X.prog X.w H s.heap a (.frz ob u) from I.hok a _ h1).1
     refine NQ (i:=l) (L:=L) (k:=Hl X.K φ H ρ j l D0)
      I hst hFr hD exD hbD hN hl (.inl hn) ?body ?t hg hdD (.inr hn)
     case body=>
      refine wpAny_execs_cons (wpAny_Expr_any ?_ I.quiet hs1);obtain⟨m,hns,Q⟩:=I.loc;obtain⟨u',r',lk⟩:=Q i x (.ref a) hi hv (.inl hx);obtain rfl:u'=Value.ref a:=r';have hm:m x=some (.ref a):=by
       rcases lk with ⟨_,e⟩|⟨q|q,_⟩
       ·exact e
       ·rw[show X.env.kindOf x=some .local from hx]at q;cases q
       ·rw[show X.env.kindOf x=some .local from hx]at q;cases q
      refine wpAny_Call_Name_kw (wpAny_Name (wpAny_loadName_local I.ok.kind hx hns hm ?_) hdx);have hK:Frag.In [(a,ob)] s.heap:=λb o e=>by
       rw[lookup_cons]at e
       by_cases hb:b=a
       ·subst hb;simp at e;subst e;exact ho
       ·have:(b==a)=false:=by simpa using hb
        rw[this]at e;cases e
      have hkp:keepIn [(a,ob)] (.ref a)=true:=by
       unfold keepIn;obtain⟨o1,o2,o3,o4⟩:=ob;cases (show o3=_ from hfd)
       simp[lookup_cons]
      refine callWith_K0 (K:=[(a,ob)]) (first:=[]) hK hkp ?_;refine wpAny_call (codeAny_mono (F.run X.A X.stack s H ⟨[],[]⟩ [] [] (λ_ H1=>D0.nx σ H1)
       (Hu X.K φ H ρ j l D0 cs)
       hr I.env0 (hb s) .nil ⟨rfl,h1,h2,φ,A,ws,S,rvs,?_⟩) λr s' p=>?_)
      ·cases er:lam k ws A with
       |ok w1 A1=>
        rw[er]at h;exactλd H' v' z Y _=>h d H' σ z Y (re.mono z)
       |exc E A1=>
        rw[er]at h;dsimp only at h
        by_cases T:cs.contains E=true
        ·rw[af T]at h
         exactλd H' z Y Ca g=>⟨E,Ca,rfl,g,T,d,A1,z,Y,h⟩
        ·rw[ag T]at h;exact h.elim
       |bad=>rw[er]at h;exact h.elim
      ·cases r with
       |error e=>
        unfold CR at p;dsimp only at p;have un:∀b o,s.heap.get? b=some o->∃o',s'.heap.get? b=some o':=by
         obtain⟨_,_,_,_,_,_,un,_⟩:=p;exactλb o e=>un.there b o e (by simp)
        obtain⟨ea,C,H',rfl,I',ly,tr,E,Ca,ec,g,T,φ1,A1,l1,S1,hn1⟩:=Gi I p s.heap λb o e=>⟨o,e⟩;cases ec;obtain⟨B,f,exC,up⟩:=hcs E T C g;exact⟨ea,C,H',B,f,rfl,I',ly,tr,un,exC,up,λoe hoe M=>⟨E,φ1,A1,l1.trans (Le.new M),S1.lay M,⟨ea,oe,.own 0,C,rfl,ql,hoe,g⟩,hn1⟩⟩
       |ok fl=>
        cases fl with
        |ret u1=>
         obtain⟨v1,H1,I1,_,q1⟩:=I.after p;exact wpAny_execs_nil ⟨rfl,σ,H1,I1,q1⟩
        |next=>exact False.elim p|brk=>exact False.elim p|cont=>exact False.elim p
     case t=>
      rintro ea C H2 s2 I2 ⟨E,d,A',z,Y,rx,hn'⟩ E'
      refine Sa (i:=l) (j:=j) I2 hN hl hj hn (.inl hy) (λs' I'=>?_) hs2 (.inr hy) hdn;exact⟨_,H2,I',hn' d H2 _ z Y ((((re.mono z).set rx).set rx).unset)⟩
    ·rw[ag hP]at h;exact h.elim
   |_=>exact h.elim
def jG {m:Ev}{P:Pos}{f:Str->Option Bool}(c:Zh X.K f (.ref C))(i:qZ X.K x (.ref C))(hm:X.mg "isinstance"=none)(j:zj X xr e m)(g:Gl X "isinstance":=by rfl)(a:Gl X x:=by rfl)(hd:(x==("__debug__":Str))=false:=by decide)
  (b:starEach [e,.Name x P] X.env=(false,eval e X.env)::starEach [.Name x P] X.env:=by rfl)(k:(backTo pos (starEach [.Name x P] X.env)).any (·.1)=false:=by rfl):
  zj X xr (.Call (.Name "isinstance" p) [e,.Name x P] [] pos) (zZ f m):=by
 try simp only[jh]at*
 have d:PE X (.Name x P) (tC (.ref C)):=λpins s σ H Q I h=>gm I a (aG I.mod.kin I.mod.glob i) ⟨.ref C,H,I,rfl,h⟩ hd;exact PE.imp (g9 (GK (cv:=.ref C) c λu r=>r) g hm (by rfl) (qy j (qy d qT) b) (by decide) (by decide) b k) (zZ.read λσ H Q h=>h)
def Oc {m:Ev}{P:Pos}{f:Str->Option Bool}{T:String}(d:Zh X.K f (.type T))(hm:X.mg "isinstance"=none)(a:X.mg x=none)(i:bootBuiltins x=some (.type T))(j:zj X xr e m)(g:Gl X "isinstance":=by rfl)(b:Gl X x:=by rfl)(hn:x ≠ "__name__":=by decide)(hd:(x==("__debug__":Str))=false:=by decide)
  (c:starEach [e,.Name x P] X.env=(false,eval e X.env)::starEach [.Name x P] X.env:=by rfl)(k:(backTo pos (starEach [.Name x P] X.env)).any (·.1)=false:=by rfl):
  zj X xr (.Call (.Name "isinstance" p) [e,.Name x P] [] pos) (zZ f m):=by
 try simp only[jh]at*
 exact PE.imp (g9 (GK (cv:=.ty T) d λu r=>r) g hm (by rfl) (qy j (qy (Xa b a i (v:=.ty T) rfl hn hd) qT) c) (by decide) (by decide) c k) (zZ.read λσ H Q h=>h)
def Qm {m:Ev}(he:zj X xr e m)(g:jZ X tg tw)(f:swapsWithSole [tg] e pos.line X.env=pure false:=by rfl)(hw:swappedStores [tg] e X.env=pure none:=by rfl)(a:(assignEach [tg] X.env).map (·.2)=[assign tg X.env]:=by rfl):jf X xr (.Assign [tg] e pos) (gD m tw):=by
 try simp only[jh]at*
 exact PS.imp (YM he g f hw a) λD σ H ⟨φ,A,ρ,S,re,h⟩=>by
   refine tM.go S re (zC.mp h) λw A1 b H1 v a l1 s q=>?_;cases E:tw w ρ with
   |none=>rw[E]at a;exact a.elim|some d=>
    rw[E]at a;exact⟨b,A1,ρ,w,d,s,re.mono l1,q,E,λc r=>a b H1 c l1 s r⟩
end
@[irreducible] noncomputable def wV (X:Cx)(x:XR)(e:Option Expr)(p:Po):Prop:=Mi.SP X x e p
def M3:@wV=@Mi.SP:=by
 funext X xr e p
 unfold wV
 rfl
def jc:@zj=@Mi.SE/\@jD=@Mi.SA/\@qX=@Mi.ST/\@yq=@Mi.SW/\@jf=@Mi.SS/\@jt=@Mi.gN/\@jF=@Mi.SI/\@jZ=@Mi.SG/\@kA=@Mi.SF/\@yG=@Mi.SQ/\@yF=@Mi.ZM/\@ym=@Mi.SM/\@Jk=@Mi.SJ/\@wV=@Mi.SP:=⟨Qr,Yv,Yo,YC,Yq,Yk,Yp,YH,YJ,YE,Yd,Ys,Xh,M3⟩
def Ma:wV X xr none Q2:=by
 try simp only[jc]at*
 exact PO.imp O0 λσ H Q ⟨φ,A,ρ,S,re,h⟩=>h φ H .refl S
def Yi {m:Ev}(c:zj X xr e m):wV X xr (some e) (kS m):=by
 try simp only[jc]at*
 exact PO.imp (OY c) λσ H Q ⟨φ,A,ρ,S,re,h⟩=>by
  refine tM.go S re (zC.mp h) λw A1 a H1 v b l1 s q=>?_;cases w with
  |int i=>obtain rfl:=q;exact⟨i,rfl,b a H1 l1 s⟩|_=>exact b.elim
section
variable {a b:Expr}{m ma mb:Ev}
def Nw (l:zj X xr e m):jF X xr tg e (Vg m):=by
 try simp only[jh]at*
 exact PI.imp (Mz l) λσ H R ⟨φ,A,ρ,S,re,h⟩=>by
   refine tM.go S re (zC.mp h) λw A1 f H1 v b l1 s q=>?_;cases w with
   |str x=>
    obtain rfl:=q;dsimp only at b
    by_cases g:Y8 x=true
    ·rw[af g]at b
     refine⟨x,rfl,g,b f H1 _ l1 s λi k t u L p=>⟨λw hw=>?_,λhn=>?_⟩⟩
     ·have a:some ((x.cps[i]?).map λc=>W.str ⟨#[c]⟩)=some (some w):=hw
      cases E:x.cps[i]? with
      |none=>rw[E]at a;cases a|some c=>
       rw[E]at a;cases a;refine⟨(Array.getElem?_eq_some_iff.mp E).1,λy r ⟨o,C,j,n⟩=>?_⟩;subst o;rw[E]at j;cases j;exact⟨.refl,p,n⟩
     ·have d:some ((x.cps[i]?).map λc=>W.str ⟨#[c]⟩)=some none:=hn
      cases E:x.cps[i]? with
      |none=>exact Array.getElem?_eq_none_iff.mp E|some c=>rw[E]at d;cases d
    ·rw[ag g]at b;exact b.elim
   |_=>exact b.elim
def JV {y:Str}{t:Tok}(g:Gl X x)(hm:X.mg x=some (.str y t))(hd:(x==("__debug__":Str))=false:=by decide):zj X xr (.Name x pos) (zq (.str y)):=by
 try simp only[jh]at*
 exact PE.imp (gn g hm (v:=.str y) ⟨t,rfl⟩ hd) λσ H Q ⟨φ,A,ρ,S,r,h⟩=>h φ H _ .refl S rfl
def Gm (hm:X.mg "str"=none)(a:zj X xr e m)(l:Gl X "str":=by rfl)(he:starEach [e] X.env=(false,eval e X.env)::starEach [] X.env:=by rfl):zj X xr (.Call (.Name "str" p) [e] [] pos) (qN Zw m):=by
 try simp only[jh]at*
 exact NJ RJ (λw A=>by unfold Zw;split;(exact j4 qr zT);exact zT) (λφ A H x u Q S q p=>by
   cases u with
   |int i=>
    obtain rfl:=q;unfold Zw at p;dsimp only at p
    by_cases h:0<=i/\i<1000
    ·rw[af h]at p
     exact⟨i,rfl,h.1,h.2,p φ H _ .refl S rfl⟩
    ·rw[ag h]at p;exact p.elim
   |_=>exact p.elim) hm (by rfl) a l (by decide) (by decide) he (by rfl)
def Ou (hm:X.mg "len"=none)(a:zj X xr e m)(l:Gl X "len":=by rfl)(he:starEach [e] X.env=(false,eval e X.env)::starEach [] X.env:=by rfl):zj X xr (.Call (.Name "len" p) [e] [] pos) (qN QC m):=by
 try simp only[jh]at*
 exact LL Rt (λw A=>by unfold QC;split;(exact j4 qr zT);exact zT) (λφ A H x u Q S q p=>by
   cases u with
   |str y=>
    obtain rfl:=q;unfold QC at p;dsimp only at p
    by_cases h:y.length<1000000
    ·rw[af h]at p
     exact⟨y,rfl,h,p φ H _ .refl S rfl⟩
    ·rw[ag h]at p;exact p.elim
   |_=>exact p.elim) hm (by rfl) a l (by decide) (by decide) he (by rfl)
def J3 (g:zj X xr a ma)(he:zj X xr b mb)(s:starEach [b] X.env=(false,eval b X.env)::starEach [] X.env:=by rfl)
  (c:attributeBase a "join" X.env (eval a X.env)=eval a X.env:=by rfl)
  (w:((backTo cpos (starEach [b] X.env)).all (λx=>!x.1)&&(backToKw cpos (keywordEach [] X.env)).all (λx=>x.1.isSome)
   && decide ([b].length+([]:bp).length+(if ([]:bp).isEmpty then 0 else 1)<30))=true:=by rfl)(e:(apos.endLine==cpos.line)=true:=by rfl):
  zj X xr (.Call (.Attribute a "join" apos) [b] [] cpos) (qS wH ma mb):=by
 try simp only[jh]at*
 exact PE.imp (Zl PySem.F.slot_str_join PySem.F.type_str_join OO g (qy he qT s) c w e s (by rfl)) λσ H Q h=>
   qS.read (r:=rJoin X.K) OF (λφ A H x y u v Q S f q p=>by
    unfold wH at p;cases u with
    |str sep=>cases v with
     |ref n=>
      obtain rfl:=f;dsimp only at p;cases E:A[n]? with
      |none=>rw[E]at p;exact p.elim|some o=>cases o with
       |lst ws=>
        rw[E]at p;dsimp only at p;obtain⟨l,vs,rfl,f1,g1,d⟩:=S.lst q E;cases i:strsOf ws with
        |none=>rw[i]at p;exact p.elim|some xs=>
         rw[i]at p;dsimp only at p;have j:=W9 i;subst j;have ev:=zo.strs.mp d;subst ev
         by_cases hok:JoinOk sep xs=true
         ·rw[af hok]at p
          exact⟨sep,l,xs,rfl,rfl,z8.of g1,hok,p φ H _ .refl S rfl⟩
         ·rw[ag hok]at p;exact p.elim
       |_=>rw[E]at p;exact p.elim
     |_=>exact p.elim
    |_=>exact p.elim) s σ H Q h
def P2 (o:zj X xr a ma)(he:zj X xr b mb)(d:starEach [b] X.env=(false,eval b X.env)::starEach [] X.env:=by rfl)
  (c:attributeBase a "find" X.env (eval a X.env)=eval a X.env:=by rfl)
  (w:((backTo cpos (starEach [b] X.env)).all (λx=>!x.1)&&(backToKw cpos (keywordEach [] X.env)).all (λx=>x.1.isSome)
   && decide ([b].length+([]:bp).length+(if ([]:bp).isEmpty then 0 else 1)<30))=true:=by rfl)(e:(apos.endLine==cpos.line)=true:=by rfl):
  zj X xr (.Call (.Attribute a "find" apos) [b] [] cpos) (qS QE ma mb):=by
 try simp only[jh]at*
 exact PE.imp (Zl PySem.F.slot_str_find PySem.F.type_str_find NF o (qy he qT d) c w e d (by rfl)) λσ H Q h=>
   qS.read (r:=XQ) OL (λφ A H x y u v Q S f q p=>by
    cases u with
    |str s=>cases v with
     |str t=>
      obtain rfl:=f;obtain rfl:=q;exact⟨s,t,rfl,rfl,p φ H _ .refl S rfl⟩
     |_=>exact p.elim
    |_=>exact p.elim) d σ H Q h
def Gb (o:zj X xr a ma)(he:zj X xr b mb)(f:starEach [b] X.env=(false,eval b X.env)::starEach [] X.env:=by rfl)
  (c:attributeBase a "split" X.env (eval a X.env)=eval a X.env:=by rfl)
  (w:((backTo cpos (starEach [b] X.env)).all (λx=>!x.1)&&(backToKw cpos (keywordEach [] X.env)).all (λx=>x.1.isSome)
   && decide ([b].length+([]:bp).length+(if ([]:bp).isEmpty then 0 else 1)<30))=true:=by rfl)(e:(apos.endLine==cpos.line)=true:=by rfl):
  zj X xr (.Call (.Attribute a "split" apos) [b] [] cpos) (qS gx ma mb):=by
 try simp only[jh]at*
 exact PE.imp (Zl PySem.F.slot_str_split PySem.F.type_str_split P5 o (qy he qT f) c w e f (by rfl)) λσ H Q h=>
   qS.read (r:=Xq) Pa (λφ A H x y u v Q S g q p=>by
    unfold gx at p;cases u with
    |str s=>cases v with
     |str t=>
      obtain rfl:=g;obtain rfl:=q;dsimp only at p
      by_cases d:(t.length==0)=false/\s.length<=100000
      ·rw[af d]at p
       refine⟨s,t,rfl,rfl,d.1,d.2,λl i=>?_⟩;obtain⟨a1,a2,j⟩:=wt S i (zo.strs.mpr rfl:zo X.K φ H ((Txt.split s t).map W.str) ((Txt.split s t).map V.str));exact p _ _ _ a1 a2 j
      ·rw[ag d]at p;exact p.elim
     |_=>exact p.elim
    |_=>exact p.elim) f σ H Q h
end
section
def Mx (hn:Nm X.K x)(g:Gl X x:=by rfl)(hd:(x==("__debug__":Str))=false:=by decide):zj X xr (.Name x pos) (zq (.fn x)):=by
 try simp only[jc]at*
 obtain⟨f,hn⟩:=hn;intro pins s σ H Q I ⟨φ,A,ρ,S,re,h⟩;exact gn (v:=.ref f) g (aG I.ok.mod.kin I.ok.mod.glob hn) rfl hd pins s σ H Q I (h φ H _ .refl S ⟨f,rfl,hn⟩)
def Pw {t:Lm}{q:Str}{P:Pos}{RF:Nat->List W->Hx->R W}(C:YG X)(hl:QT X.prog X.w X.K X.mg j q t)(L:QG X.N X.env.scope t=true)
  (hR:∀base PG,(∀k,wG X.prog X.w X.K X.mg base (j+1) (PG k) (yc [t] k))->zL X.prog X.w X.K X.mg base kk x 1 (kT PG RF))(hr:zW kk X.A)
  (hB:BMain X.mg X.base)(f:X.env.code=.ref c)(hC:CodeHd X.base c Pt)(d:X.env.qual ++ "<lambda>"=q)(l:defaultsOf t.params X.env=([],[]))(hg:Gl X x:=by rfl)(Z:(x==("__debug__":Str))=false:=by decide)
  (he:starEach [.Lambda t.params t.body t.scope P] X.env=(false,eval (.Lambda t.params t.body t.scope P) X.env)::starEach [] X.env:=by rfl)(U:(backTo pos (starEach [] X.env)).any (·.1)=false:=by rfl):
  zj X qx (.Call (.Name x p) [.Lambda t.params t.body t.scope P] [] pos) (gz n q Pt t.idx (RF 0)):=by
 try simp only[jc]at*
 intro pins s σ H Q I ⟨φ,A,ρ,S,re,h⟩;unfold gz at h;cases E:A[n]? with
 |none=>rw[E]at h;exact h.elim|some o=>cases o with
  |tab q' P'=>
   rw[E]at h;dsimp only at h
   by_cases hc:q'=q/\P'=Pt
   ·rw[af hc]at h
    cases ec:wQ t.idx ρ with
    |none=>rw[ec]at h;exact h.elim|some ws=>
     rw[ec]at h;dsimp only at h;obtain⟨fa,fd,ps,F,hm,hk,hb⟩:=hR _ _ (Gx (q:=q) I C hl (Yg L)).2;refine wpAny_Call_Name_kw (gm I hg hm ?_ Z);have hS:SA X qx [.Lambda t.params t.body t.scope P] (zh (gE n q Pt 0 (kZ X.env q [t] 0)) zt):=Mi.G8 (Nj (ls:=[t]) rfl L hB f hC d l) Mi.XA;refine callWith_K (h₀:=X.base) I.ok.mod.kin hk (zw (hS pos pins s σ H (λvs H1=>∃b,Le X.K φ H b H1/\zu X.K b A H1/\zo X.K b H1 [.clo 0 ws (ZL X.env q [t] σ 0)] vs) I ⟨φ,A,ρ,S,re,?_⟩) λus s1 ⟨vs,H1,B,r1,b,l1,S1,u⟩=>⟨B.kIn,?_⟩) he U
     ·have em:zh (gE n q Pt 0 (kZ X.env q [t] 0)) zt ρ A=.ok [.clo 0 [] (kZ X.env q [t] 0)] A:=by
       unfold zh gE;rw[E];dsimp only;rw[af hc]
       rfl
      rw[em];intro b H1 vs l1 S1 q1;refine⟨b,l1,S1,?_⟩;obtain⟨v,r',rfl,hv,T⟩:=q1;obtain rfl:r'=[]:=T;obtain⟨a,ob,u0,c0,oc,uc,vs0,rfl,g1,g2,⟨t',et',gp⟩,_⟩:=hv;cases et';obtain⟨J,cv,u⟩:=Gg (re.mono l1) ec;exact .one ⟨a,ob,u0,c0,oc,uc,J,rfl,g1,g2,⟨t,rfl,gp,cv⟩,u⟩
     ·obtain⟨e0,hL⟩:=Gx (q:=q) B C hl (Yg L)
      obtain⟨fa',fd',M,F',i,hk',hb'⟩:=hR _ _ hL;rw[hm]at i;cases i;have g:yn X.K 1 (kT (ZL X.env q [t] σ) RF) vs H1 Q E0:=by
       refine⟨by rw[<- u.length];rfl,b,A,[.clo 0 ws (ZL X.env q [t] σ 0)],S1,u,?_⟩
       unfold kT;dsimp only;rw[af rfl];exact zJ h (λ_ _ z=>z.mono l1) λy A2 z D H2 l2 S2=>((z.mono l1) D H2 l2 S2).elim
      have Y:=F'.len _ _ _ _ g;have hu:us.length=M.length:=by rw[<- r1.length];exact Y
      refine wpAny_call (codeAny_mono (F'.run X.A X.stack s1 H1 ⟨[]++us,[]⟩ us vs Q E0 hr e0 ?_ r1 g) λr s2 d=>?_)
      ·have:=hb' s1 us B.kIn (by rw[aT];exact hu)
       rw[aT]at this;exact this
      ·cases r with
       |error e=>exact False.elim d|ok fl=>
        cases fl with
        |ret u1=>exact B.after d|next=>exact False.elim d|brk=>exact False.elim d|cont=>exact False.elim d
   ·rw[ag hc]at h;exact h.elim
  |_=>rw[E]at h;exact h.elim
variable {K:Frag}{st:Stmt}{m:Ex}
def LZ (F:jj K x x st f fd)(hn:nsIn K mainGlobals x=some (some (.ref f)))(t:tabIn K x=some (c,Pt))(S:zV N ps (zH st))
  (h:∀(A:Around)(outer:bj)(s:Shared)(H:Hp)(E:XK),zW k (A.deeper (envOfC x (zH st) s.heap.objs.size f (.ref c)))->jt (jA jS P w K mg base N x (zH st) f (.ref c) A outer s H E).nox qx (jx st) m):
  qA P w K mg base jS (k+1) f fd ps (yn K ps.length (qu N.length m)):=by
 try simp only[jc]at*
 exact(HX (q := "") (ls:=[]) (m:=λ_=>m) F hn t S h).imp λvs H Q E ⟨l,φ,A,ws,S,r,q⟩=>⟨l,φ,A,ws,S,r,λ_=>q⟩
end
section
variable {g:Heap}{C f m:Str}{o a b:Expr}{me mo ma mb:Ev}{w:W}{D:List (Str×W)}
def GZ (c:wW X.K C)(na:yR X.K (clsAt X.K C) f)(l:zj X xr o mo)(p:attributeBase o f X.env (eval o X.env)=eval o X.env:=by rfl):zj X xr (.Attribute o f pos) (Kc C f mo):=by
 try simp only[jc]at*
 exact PE.imp (NN l p) λσ H Q ⟨φ,A,ρ,S,re,h⟩=>by
   refine tM.go S re (zC.mp h) λw A1 d H1 v b l1 s q=>?_;cases w with
   |ref n=>
    dsimp only at b;cases E:A1[n]? with
    |none=>rw[E]at b;exact b.elim|some ob=>
     rw[E]at b
     split at b
     ·rename_i o' J i L B
      cases B
      by_cases g:J=C/\i=f
      ·rw[af g]at b
       obtain⟨rfl,rfl⟩:=g;obtain⟨a,D,U,I,us,hn,t,k,r⟩:=s.ob n _ E;obtain⟨T,rfl,e⟩:=q;rw[D]at e;cases e;cases wg hn;cases us with
       |nil=>cases k|cons u us=>cases us with
        |nil=>
         obtain⟨x,y⟩:=u;obtain rfl:x=i:=(List.cons.inj k).1;obtain⟨M,N,z,j,P⟩:=r;cases z;refine⟨a,_,I,_,y,rfl,t,c.cl,na,?_,b d H1 _ l1 s j⟩;unfold List.lookup;rw[beq_self_eq_true]
        |cons _ _=>cases k
      ·rw[ag g]at b;exact b.elim
     ·exact b.elim
   |_=>exact b.elim
def OW {pos':Pos}(c:wW X.K C)(na:yR X.K (clsAt X.K C) f)(he:zj X xr e me)(I:zj X xr o mo)(B:swapsWith e (some (.Attribute o f pos')) pos.line X.env=pure false:=by rfl):jf X xr (.Assign [.Attribute o f pos'] e pos) (X9 C f me mo):=by
 try simp only[jc]at*
 exact PS.imp (NY I he B) λD σ H ⟨φ,A,ρ,S,re,h⟩=>by
   refine tM.go S re (zC.mp h) λw A1 t H1 v L l1 N y=>?_;refine tM.go N (re.mono l1) (zJ (zC.mp L) (λ_ _ z=>z) λ_ _ z=>z.mono l1) λj P d r v2 b l2 s Q=>?_;cases j with
   |ref n=>
    dsimp only at b;cases i:P[n]? with
    |none=>rw[i]at b;exact b.elim|some ob=>
     rw[i]at b
     split at b
     ·rename_i o' g M
      cases M
      by_cases k:g=C
      ·rw[af k]at b
       subst k;obtain⟨a,p,Y,x,us,hn,l,J,T⟩:=s.ob n _ i;obtain⟨U,rfl,E⟩:=Q;rw[p]at E;cases E;cases wg hn;cases us with
       |nil=>
        refine⟨a,_,x,[],rfl,l,c.cl,na,by decide,?_⟩
        have l3:Le X.K d r d (upd r a (.ins (clsAt X.K g) x [(f,v)])):=Le.upd p (λxs z=>by rw[l]at z;cases z) (λ_ _ z=>by rw[l]at z;cases z)
        obtain⟨q,j⟩:=s.write (o:=.ins g []) (o':=.ins g [(f,w)]) (u:=.ins (clsAt X.K g) x [(f,v)]) i rfl rfl p ⟨_,x,[(f,v)],hn,ql,rfl,.one ((y.mono l2).mono l3)⟩;exact b d _ _ ((l1.trans l2).trans q) j (((re.mono l1).mono l2).mono q)
       |cons _ _=>cases J
      ·rw[ag k]at b;exact b.elim
     ·exact b.elim
   |_=>exact b.elim
def Yl {f:Fn}(a:jO X g xr)(F:jE X.prog X.w X.K X.mg X.base k C x n f)(r:zW k X.A)(b:zj X xr o mo)(i:jD X xr (e::es) mr)(l:jV mr j:=by repeat' (first|exact zN|refine zp ?_))(hn:j+1=n:=by rfl)
  (h:starEach (e::es) X.env=(false,eval e X.env)::starEach es X.env:=by rfl)(H:(backTo pos (starEach es X.env)).any (·.1)=false:=by rfl)
  (t:eval (.Call (.Attribute o x apos) (e::es) [] pos) X.env=(do
   let ov <- eval o X.env
   standAt apos.atName
   let (f,first) <- holding [ov] (getMethod ov x pl)
   callWith pos f first (backTo pos (starEach (e::es) X.env)) (backToKw pos (keywordEach [] X.env))):=by rfl):zj X xr (.Call (.Attribute o x apos) (e::es) [] pos) (qB C x f mo mr):=by
 try simp only[jc]at*
 obtain⟨q,fd,p,F,c,hm,d⟩:=F;exact PE.imp (G5 (pl:=pl) b c.cl hm F r d .nil a.passes i h H t) (qB.read l hn M5)
def Qg {f:Fn}(F:y7 X.prog X.w X.K X.mg X.base k C x n f)(r:zW k X.A)(a:zj X qx o mo)(d:jD X qx (e::es) mr)(l:jV mr j:=by repeat' (first|exact zN|refine zp ?_))(hn:j+1=n:=by rfl)
  (h:starEach (e::es) X.env=(false,eval e X.env)::starEach es X.env:=by rfl)(H:(backTo pos (starEach es X.env)).any (·.1)=false:=by rfl)
  (t:eval (.Call (.Attribute o x apos) (e::es) [] pos) X.env=(do
   let ov <- eval o X.env
   standAt apos.atName
   let (f,first) <- holding [ov] (getMethod ov x pl)
   callWith pos f first (backTo pos (starEach (e::es) X.env)) (backToKw pos (keywordEach [] X.env))):=by rfl):zj X qx (.Call (.Attribute o x apos) (e::es) [] pos) (qB C x f mo mr):=by
 try simp only[jc]at*
 obtain⟨g,fd,p,F,c,hm,b⟩:=F;exact PE.imp (G5 (pl:=pl) a c.cl hm F r b .nil YY d h H t) (qB.read l hn Mq)
def Rk {f:Fn}(F:y7 X.prog X.w X.K X.mg X.base k C "__init__" 1 f)(M:Je X.K C=true)(r:zW (k+1) X.A)(n:Gl X C:=by rfl)(g:(C==("__debug__":Str))=false:=by decide):zj X qx (.Call (.Name C p) [] [] pos) (YN C f):=by
 try simp only[jc]at*
 obtain⟨U,fd,T,F,c,hm,t⟩:=F;unfold Je at M;rw[aq]at M;intro pins s σ H Q I ⟨φ,A,ρ,S,re,h⟩;refine Ph ⟨M.1,hm.at_,hm.fn,M.2⟩ F r n (aG I.ok.mod.kin I.ok.mod.glob c.at_) t .nil YY g pins s σ H Q I ?_;intro x d j hd ne;have l1:Le X.K φ H φ (upd H d (.own x)):=Le.new hd;have E:zu X.K φ A (upd H d (.own x)):=S.lay hd;have e:upd H d (.own x) x=none:=by rw[zF (Ne.symm ne)];exact j
 obtain⟨l2,D⟩:=E.alloc (u:=.ins (clsAt X.K C) d []) (o:=.ins C []) e ⟨_,d,[],c.at_,ql,rfl,zo.nil⟩;have l:=l1.trans l2;have ex:(φ++[x])[A.length]? =some x:=by rw[<- S.len];simp
 have h0:(f [.ref A.length] (A++[.ins C []])).post (λw A1=>R.post (match w with
  |.non=>.ok (.ref A.length) A1|_=>.bad) (PB X.K φ H Q) (EB X.K φ H qx)) (EB X.K φ H qx):=zC.mp h
 refine⟨rfl,φ++[x],A++[.ins C []],[.ref A.length],D,.one ⟨x,rfl,ex⟩,zJ h0 (λw A1 i b P v L J q=>?_) λy Y z a N l3 B=>(z a N (l.trans l3) B).elim⟩;cases w with
 |non=>exact⟨q,i b P _ (l.trans L) J ⟨x,rfl,L.ex _ _ ex⟩⟩|_=>exact i.elim
def W4 {fs:List (Str×Fn)}{y:Str}(o:jO X g xr)(F:∀q∈fs,zU X.prog X.w X.K X.mg X.base k q.1 n q.2)(r:zW k X.A)(B:jD X xr (e::es) mr)(t:jV mr n:=by repeat' (first|exact zN|refine zp ?_))(u:X.N[i]? =some y:=by rfl)(v:gL X.env.scope y:=by first|exact Or.inl rfl|exact Or.inr (Or.inl rfl)|exact Or.inr (Or.inr rfl))
  (b:(y==("__debug__":Str))=false:=by decide)(d:(y==("__classdict__":Str))=false:=by decide)(he:starEach (e::es) X.env=(false,eval e X.env)::starEach es X.env:=by rfl)(l:(backTo pos (starEach es X.env)).any (·.1)=false:=by rfl):
  zj X xr (.Call (.Name y p) (e::es) [] pos) (Qs i fs mr):=by
 try simp only[jc]at*
 intro pins s σ H Q I ⟨φ,A,ρ,S,re,h⟩;unfold Qs at h;cases E:ρ[i]? with
 |none=>rw[E]at h;exact h.elim|some j=>cases j with
  |none=>rw[E]at h;exact h.elim|some c=>cases c with
   |fn z=>
    rw[E]at h;dsimp only at h;cases a:fs.lookup z with
    |none=>rw[a]at h;exact h.elim|some f=>
     rw[a]at h;refine Oa (i:=i) (x:=z) o (F _ (GA a)) r B t u v b d he l pins s σ H Q I ⟨φ,A,ρ,S,re,?_⟩;unfold Yn;rw[E];dsimp only;rw[af rfl];exact h
   |_=>rw[E]at h;exact h.elim
def NM {st:Expr}:zj X xr st λ_ _=>.bad:=by
 try simp only[jc]at*
 exactλ_ _ _ _ _ _ ⟨_,_,_,_,_,h⟩=>h.elim
def RD (h:ZN X.K x w)(g:Gl X x:=by rfl)(hd:(x==("__debug__":Str))=false:=by decide):zj X xr (.Name x pos) (zq w):=by
 try simp only[jc]at*
 obtain⟨f,hn,hw⟩:=h;intro pins s σ H Q I ⟨φ,A,ρ,S,re,h⟩;exact gn (v:=.ref f) g (aG I.ok.mod.kin I.ok.mod.glob hn) rfl hd pins s σ H Q I (h φ H _ .refl S (hw φ H))
def GF (G:GD X.K x D)(M:zj X xr b mb)(L:Gl X x:=by rfl)(hd:(x==("__debug__":Str))=false:=by decide)(J:∀v u,subscripted b false v u=operate [v,u] (getItem v u):=by intro _ _;rfl):zj X xr (.Subscript (.Name x p) b pos) (qN (QA D) mb):=by
 try simp only[jc]at*
 obtain⟨d,hn,G⟩:=G;intro pins s σ H Q I ⟨φ,A,ρ,S,re,h⟩;have hm:=aG I.ok.mod.kin I.ok.mod.glob hn;refine Subscript_ (QS (R:=λx y g=>x=.ref d/\∃k w,y=.str k/\KTD.datumAt k D=some w/\∀z,(∀f P,RV X.K f P w z)->Q z g) (gn (v:=.ref d) L hm rfl hd) M I ?_ λv u s2 x y g i l r q=>?_)
 ·refine tM.go S re (zC.mp h) λw A1 e H1 v a l1 N B=>?_
  cases w with
  |str k=>
   obtain rfl:=B;unfold QA at a;dsimp only at a;cases c:KTD.datumAt k D with
   |none=>rw[c]at a;exact a.elim|some w=>rw[c]at a;exact⟨rfl,k,w,rfl,c,λz C=>a e H1 z l1 N (C _ _)⟩
  |_=>exact a.elim
 ·obtain⟨rfl,k,w,rfl,c,q⟩:=q
  cases l;obtain⟨t,rfl⟩:=r;obtain⟨ty,nd⟩:=QF G i;refine subscriptTail_builtin ty slot_dict_getitem.lookup ?_ (J _ _) (by intro _;with_unfolding_all rfl)
  unfold getItem
  try with_reducible refine wpAny_holding ?_
  refine bt (wpAny_sequenceKey ty (by decide) ?_)
  refine bt (wpAny_callSpecial?_slot (name:=Str.ofString "__getitem__") ty slot_dict_getitem (wpAny_call_entry slot_dict_getitem ty entry_dict_getitem ?_ (args_dict_getitem _ _)));show wpAny _ _ (dictGet d (.str k t) >>= _) _ _ s2;refine bt (Yu G i (λT v j E=>?_) λhn=>?_)
  ·rw[c]at j
   cases j;obtain⟨z,o,n⟩:=Xs E;exact bw ⟨v,rfl,bw ⟨z,g,i.tok _,o,q z n⟩⟩
  ·rw[c]at hn;cases hn
def PR {m:Ev}(G:GD X.K x D)(he:zj X xr e m)(T:Gl X x:=by rfl)(hd:(x==("__debug__":Str))=false:=by decide)
  (b:attributeBase (.Name x p) "get" X.env (eval (.Name x p) X.env)=eval (.Name x p) X.env:=by rfl)
  (f:((backTo cpos (starEach [e] X.env)).all (λx=>!x.1)&&(backToKw cpos (keywordEach [] X.env)).all (λx=>x.1.isSome)
   && decide ([e].length+([]:bp).length+(if ([]:bp).isEmpty then 0 else 1)<30))=true:=by rfl)
  (a:(apos.endLine==cpos.line)=true:=by rfl)(r:starEach [e] X.env=(false,eval e X.env)::starEach [] X.env:=by rfl)(n:(backTo cpos (starEach [] X.env)).any (·.1)=false:=by rfl):
  zj X xr (.Call (.Attribute (.Name x p) "get" apos) [e] [] cpos) (qN (XW D) m):=by
 try simp only[jc]at*
 obtain⟨d,hn,G⟩:=G;intro pins s σ H Q I ⟨φ,A,ρ,S,re,h⟩;have hm:=aG I.ok.mod.kin I.ok.mod.glob hn;refine wpAny_Call_method_late b f a rfl (zw (gn (v:=.ref d) T hm rfl hd pins s σ H (λC q=>C=.ref d/\q=H) I ⟨rfl,rfl⟩) λv s1 ⟨x,H1,B,J,e1,Z⟩=>?_);subst e1 Z;cases J;obtain⟨c,l⟩:=QF G B;refine⟨"dict","dict.get",plainAttrs_dict,slot_dict_get,PySem.F.type_dict_get,c,l,?_⟩;have y:=(qy he qT r) cpos pins s1 σ H1 (λvs g=>∃k,vs=[.str k]/\∀z,(∀j q,RV X.K j q ((KTD.datumAt k D).getD .non) z)->Q z g) B (tM.go S re (zC.mp h) λw A1 i H1 v c l1 S1 M=>by
  cases w with
  |str k=>
   obtain rfl:=M;exact⟨k,rfl,λz N=>c i H1 z l1 S1 (N _ _)⟩
  |_=>exact c.elim)
 rw[r]at y ⊢;refine Calls.callWith_builtin (by show(false || (backTo cpos (starEach [] X.env)).any (·.1))=false;rw[n]<;>rfl) (Calls.evalArgs_plain ?_)
 refine zw y λus s2 ⟨vs,g,o,E,k,Y,L⟩=>?_;subst Y;obtain⟨u,rfl,t,rfl⟩:=E.one;obtain⟨g1,g2⟩:=QF G o;have fin:∀(w:W)(v:Value),(KTD.datumAt k D).getD .non=w->(∃z:V,RelV z v/\∀φ H,RV X.K φ H w z)->EP X pins σ Q v { s2 with toks:=s2.toks+1 }:=λw v hw ⟨z,c,l⟩=>⟨z,g,o.tok _,c,L z (by rw[hw];exact l)⟩
 exact call_meetsIn slot_dict_get g1 PySem.F.entry_dict_get (PySem.F.args_dict_get_2 _ _) (R5 (X:=X) G) ⟨⟨pins,σ,g,o⟩,λw v U P=>fin w v (by rw[U];rfl) (Xs P),λhn=>fin .non .none (by rw[hn];rfl) ⟨.non,rfl,λ_ _=>rfl⟩⟩
def Up (o:zj X xr a ma)(he:zj X xr b mb)(d:starEach [b] X.env=(false,eval b X.env)::starEach [] X.env:=by rfl)
  (c:attributeBase a "startswith" X.env (eval a X.env)=eval a X.env:=by rfl)
  (w:((backTo cpos (starEach [b] X.env)).all (λx=>!x.1)&&(backToKw cpos (keywordEach [] X.env)).all (λx=>x.1.isSome)
   && decide ([b].length+([]:bp).length+(if ([]:bp).isEmpty then 0 else 1)<30))=true:=by rfl)(e:(apos.endLine==cpos.line)=true:=by rfl):
  zj X xr (.Call (.Attribute a "startswith" apos) [b] [] cpos) (qS w8 ma mb):=by
 try simp only[jc]at*
 exact PE.imp (Zl PySem.F.slot_str_startswith PySem.F.type_str_startswith RC o (qy he qT d) c w e d (by rfl)) λσ H Q h=>
   qS.read (r:=G4) Rx (λφ A H x y u v Q S f q p=>by
    unfold w8 at p;cases u with
    |str s=>cases v with
     |str t=>
      obtain rfl:=f;obtain rfl:=q;exact⟨s,t,rfl,rfl,p φ H _ .refl S rfl⟩
     |_=>exact p.elim
    |_=>exact p.elim) d σ H Q h
def V2 (o:zj X xr a ma)(he:zj X xr b mb)(d:starEach [b] X.env=(false,eval b X.env)::starEach [] X.env:=by rfl)
  (c:attributeBase a "removeprefix" X.env (eval a X.env)=eval a X.env:=by rfl)
  (w:((backTo cpos (starEach [b] X.env)).all (λx=>!x.1)&&(backToKw cpos (keywordEach [] X.env)).all (λx=>x.1.isSome)
   && decide ([b].length+([]:bp).length+(if ([]:bp).isEmpty then 0 else 1)<30))=true:=by rfl)(e:(apos.endLine==cpos.line)=true:=by rfl):
  zj X xr (.Call (.Attribute a "removeprefix" apos) [b] [] cpos) (qS gX ma mb):=by
 try simp only[jc]at*
 exact PE.imp (Zl PySem.F.slot_str_removeprefix PySem.F.type_str_removeprefix Rz o (qy he qT d) c w e d (by rfl)) λσ H Q h=>
   qS.read (r:=GU) R0 (λφ A H x y u v Q S g q p=>by
    unfold gX at p;cases u with
    |str s=>cases v with
     |str t=>
      obtain rfl:=g;obtain rfl:=q;dsimp only at p
      by_cases f:s.length<=100000
      ·rw[af f]at p
       exact⟨s,t,rfl,rfl,f,p φ H _ .refl S rfl⟩
      ·rw[ag f]at p;exact p.elim
     |_=>exact p.elim
    |_=>exact p.elim) d σ H Q h
def Oq {m:Ev}(i j:Nat){y:Str}{q r pp:Pos}(U:X.calm=true)(f:X.N.Nodup)(he:zj X xr e m)(P:X.N[i]? =some x:=by rfl)(K:Loc X.env.scope x:=by first|exact Or.inl rfl|exact Or.inr rfl)(hf:X.fn x=true∨X.env.scope.names.lookup x=some .local:=by first|exact .inl rfl|exact .inr rfl)
  (M:X.N[j]? =some y:=by rfl)(J:Loc X.env.scope y:=by first|exact Or.inl rfl|exact Or.inr rfl)(T:X.fn y=true∨X.env.scope.names.lookup y=some .local:=by first|exact .inl rfl|exact .inr rfl)
  (L:swapsWithSole [.Tuple [.Name x p,.Starred (.Name y q) r] n pp] e pos.line X.env=pure false:=by rfl)(hw:swappedStores [.Tuple [.Name x p,.Starred (.Name y q) r] n pp] e X.env=pure none:=by rfl)
  (a:(assignEach [.Tuple [.Name x p,.Starred (.Name y q) r] n pp] X.env).map (·.2)=[assign (.Tuple [.Name x p,.Starred (.Name y q) r] n pp) X.env]:=by rfl):
  jf X xr (.Assign [.Tuple [.Name x p,.Starred (.Name y q) r] n pp] e pos) (X0 i j m):=by
 try simp only[jc]at*
 exact have Y:gK X [.Starred (.Name y q) r] (XX (Zi j) X7):=λpins s σ H vs us Q I r h=>(kH (kJ (pos:=q) f M J T) Ql) pins s σ H vs us Q I r h
  PS.imp (YM he (OQ U (kH (kJ f P K hf) Y)) L hw a) λD σ H ⟨φ,A,ρ,S,re,h⟩=>by
   refine tM.go S re (zC.mp h) λw A1 k H1 v a l1 g C=>?_;cases w with
   |ref n=>
    dsimp only at a;cases E:A1[n]? with
    |none=>rw[E]at a;exact a.elim|some o=>
     rw[E]at a
     split at a
     ·rename_i o' x xs Z
      cases Z
      by_cases c:xs.length<=10000
      ·rw[af c]at a
       obtain⟨l,ys,rfl,f1,g1,u⟩:=g.lst C E;obtain⟨v1,z,rfl,d,t⟩:=u;refine⟨l,v1,z,rfl,.of g1,by rw[<- t.length];exact c,λl2 b=>?_⟩
       obtain⟨l3,S3,B⟩:=wt g b t;exact⟨v1,[.ref l2],rfl,.ref l2,[],rfl,rfl,a _ _ _ (l1.trans l3) S3 ((((re.mono l1).mono l3).set (d.mono l3)).set B)⟩
      ·rw[ag c]at a;exact a.elim
     ·exact a.elim
   |_=>exact a.elim
def Gs {m:Ev}{lo i:Option Expr}{pl pu:Po}{P:Pos}(he:zj X xr e m)(B:wV X xr lo pl)(t:wV X xr i pu):zj X xr (.Subscript e (.Slice lo i none P) pos) (wF m pl pu):=by
 try simp only[jc]at*
 exact PE.imp (Py OI he B t) λσ H Q ⟨φ,A,ρ,S,re,h⟩=>by
   refine tM.go S re (zC.mp h) λw A1 f H1 v D l1 M q=>?_;refine⟨f,A1,ρ,M,re.mono l1,zJ (zC.mp D) (λl U C d Z l2 J=>?_) λ_ _ z=>z.mono l1⟩;refine⟨d,U,ρ,J,(re.mono l1).mono l2,zJ (zC.mp C) (λu T b c N l3 s=>?_) λ_ _ z=>z.mono (l1.trans l2)⟩;have L:=(l1.trans l2).trans l3;cases w with
   |ref n=>
    dsimp only at b;cases E:T[n]? with
    |none=>rw[E]at b;exact b.elim|some o=>cases o with
     |ro ws=>
      rw[E]at b;dsimp only at b;obtain⟨a,g,vs,x,r⟩:=s.ob n _ E;obtain⟨Y,rfl,j⟩:=(q.mono l2).mono l3;rw[g]at j;cases j;have hlen:ws.length=vs.length:=r.length;refine⟨a,vs,rfl,x.sq,λp y=>?_⟩;have k:zo X.K c N (ZF ws l u) (gC vs l u):=by
       unfold ZF gC;rw[hlen];exact zo.take _ (zo.drop _ r)
      obtain⟨a1,a2,I⟩:=wt s y k;exact b _ _ _ (L.trans a1) a2 I
     |_=>rw[E]at b;exact b.elim
   |_=>exact b.elim
end
def YT {K:Frag}{C:Str}{st:Stmt}{f:Addr}{m:Ex}(F:jj K x qual st f fd)(c:wW K C)(hm:Meth K (clsAt K C) x f)(S:zV N ps (zH st))
  (j:∀(kV doc pm:Value)(an:bq)(v ct:Value)(us:a7),us.length=ps.length->bindArgs (fnOf x qual (kf st) (jx st) (zH st) .none kV doc pm an v ct) ⟨us,[]⟩=pure (ps.zip us))
  (a:∀(v:Value)(A:Around)(outer:bj)(s:Shared)(H:Hp)(E:XK),zW k (A.deeper (envOfC qual (zH st) s.heap.objs.size f v))->
   jO (jA (jR P w) P w K mg base N qual (zH st) f v A outer s H E) s.heap (yg K E)->jt (jA (jR P w) P w K mg base N qual (zH st) f v A outer s H E) (yg K E) (jx st) m):
  jE P w K mg base (k+1) C x ps.length (qU N.length m):=by
 try simp only[jh]at*
 refine⟨f,fd,ps,?_,c,hm,F.binds j⟩;obtain⟨B,z,kV,doc,pm,an,v,ct,o,rfl,lk,d⟩:=F.ex;refine Qz lk d S (λvs H Q E h=>h.len) λA outer s H vs Q E i ⟨D,φ,A1,ws,p,r,h⟩=>⟨_,a v A outer s H E i Vc,?_⟩;refine⟨φ,A1,ws.map some++List.replicate (N.length-ws.length) none,p,RE.start r,?_⟩;have h':=zC.mp h;show R.post _ (FB K φ H _) _;cases e:m (ws.map some++List.replicate (N.length-ws.length) none) A1 with
 |ok n u=>
  rw[e]at h';cases n with
  |rt w=>exact h'|nx ρ=>exactλb t g l q _=>h' b t .non l q rfl|bk ρ=>exact h'.elim|ct ρ=>exact h'.elim
 |exc y u=>rw[e]at h';exact h'|bad=>rw[e]at h';exact h'.elim
def zL.up {K:Frag}{f:Fn}(F:zL P w K mg base j x n f)(h:j<=k:=by decide):zL P w K mg base k x n f:=F.mono h
def zU.up {K:Frag}{f:Fn}(F:zU P w K mg base j x n f)(h:j<=k:=by decide):zU P w K mg base k x n f:=F.mono h
section
variable {C:List Value->Prop}
theorem jQ (h:∀a,C [a]):∀us:a7,us.length=1->C us
 |[a],_=>h a
theorem yf (h:∀a b,C [a,b]):∀us:a7,us.length=2->C us
 |[a,b],_=>h a b
theorem Kg (h:∀a b c,C [a,b,c]):∀us:a7,us.length=3->C us
 |[a,b,c],_=>h a b c
end
def je {l:bb}(h:decide l.Nodup=true):l.Nodup:=of_decide_eq_true h
noncomputable def Vr (N P:bb)(sc:Scope):Bool:=decide (sc.kind=.function)&&(!sc.isCoroutine&&(!sc.isGenerator&&(decide N.Nodup&&(decide (N.take P.length=P)&&(P.all (λx=>decide (sc.names.lookup x=some .local) || decide (sc.names.lookup x=some .cell))&&sc.names.all λy=>!decide (y.2=.free))))))
def qf {P:bb}(h:Vr N P sc=true):zV N P sc:=by
 unfold Vr at h;simp only[aq,ay,not_eq_true',all_eq_true,or_eq_true,decide_eq_false_iff_not]at h;obtain⟨g,f,e,d,c,b,a⟩:=h;exact⟨g,f,e,d,c,b,λy H=>a y H⟩
section
def jm {iter:Expr}{mi:Ei}{M:Ev}{em:Em}(nl:Nat)(cap:ba)(hw:jF X xr tg iter mi)
  (n:∀s H fp,jZ (qt X N sc s H fp q9) tg tw/\yF (qt X N sc s H fp q9) ifs M/\ym (qt X N sc s H fp q9) elt (⟨tg,iter,ifs,0⟩::gs) sc pos 0 em)
  (c:X.calm=true:=by rfl)(S:yL X sc:=by exact cps (by kernel_rfl))(p:kP X.N N sc nl cap=true:=by kernel_rfl)
  (b:∀g',gs[0]? =some g'->g'.is_async=0:=by intro _ h;cases h<;>rfl)
  (a:∀x,foldedSetIterable iter X.env x=pure x:=by intro _;rfl):kA X xr (.ListComp elt (⟨tg,iter,ifs,0⟩::gs) sc pos) (qg nl cap mi tw M em):=Ot nl cap c S p hw n b a
def ji {d:Nat}{me:Ev}(he:zj X qx elt me)(h:∀e s,X.xe e s->False:=by exactλ_ _ z=>z)(H:gens[d+1]? =none:=by rfl):ym X elt gens sc pos d (qo me):=O8 h he H
end
open PySem L2
abbrev zx:Ev:=jX 0
abbrev zr:Ev:=jX 1
abbrev qk:Ev:=jX 2
abbrev qp:Ev:=jX 3
abbrev jP:Ev:=jX 4
abbrev gH:Ev:=jX 5
abbrev Vs:Ev:=jX 6
abbrev VA:Ev:=jX 7
abbrev HS:Ev:=jX 8
abbrev y8:Ev:=zq (.int 0)
abbrev j0:Ev:=zq (.int 1)
abbrev Vz:Ev:=zq (.int 2)
abbrev HN:Ev:=zq (.int 5)
abbrev HJ:Ev:=zq (.int 7)
abbrev HP:Ev:=zq (.int 8)
abbrev qF:Ev:=zq (.bl true)
abbrev HM:Ev:=zq (.bl false)
abbrev gG:Ev:=zq .non
abbrev wX:Ex:=zl (zY HM) zy
end Mi
namespace G
open PySem L2 Mi
noncomputable def top (i:Nat):Stmt:=PySem.Challenge.pw_nearkinds_k93_lines_that_are_none.main.body.getD i (.Pass ⟨0,0,0,0⟩)
noncomputable abbrev Z9:List (Str×W):=[("one",.fn "join_kinds"),("kinds",.fn "exchange_kinds"),("places",.fn "exchange_places")]
noncomputable abbrev JD:List (Str×W):=[("table",.fn "tell_table"),("steady",.fn "tell_steady"),("break",.fn "tell_break"),("shares",.fn "tell_shares"),("most",.fn "tell_most")]
noncomputable abbrev Jl:List (Str×W):=[("one",.int 2),("kinds",.int 2),("places",.int 2),("back",.int 0),("table",.int 0),("steady",.int 0),("break",.int 0),("shares",.int 2)]
structure Dk (K:Frag):Prop where
 cl:wW K "Desk"
 mak:Je K "Desk"=true
 na_tables:yR K (clsAt K "Desk") "tables"
 g_DEEDS:GD K "DEEDS" Z9
 g_QUESTIONS:GD K "QUESTIONS" JD
 g_FIGURES_BEHIND:GD K "FIGURES_BEHIND" Jl
 t_FIRST_TABLE:ZN K "FIRST_TABLE" (.tup [.tup [.int 0]])
def Kl (K:Frag):Bool:=Y5 K "Desk" && Je K "Desk" && Vj K "Desk" "tables" && ZP K "DEEDS" Z9&&ZP K "QUESTIONS" JD&&ZP K "FIGURES_BEHIND" Jl
def Ic {K:Frag}(h:Kl K=true)(t0:ZN K "FIRST_TABLE" (.tup [.tup [.int 0]])):Dk K:=by
 unfold Kl at h;simp only[aq]at h;obtain⟨⟨⟨⟨⟨h0,d⟩,c⟩,b⟩,a⟩,H⟩:=h;exact⟨Mt h0,d,Mu c,YO b,YO a,YO H,t0⟩
structure Bu (mg:bh):Prop where
 U8:mg "ValueError"=none
 QB:mg "all"=none
 NR:mg "bool"=none
 w9:mg "enumerate"=none
 LR:mg "int"=none
 qH:mg "isinstance"=none
 kM:mg "len"=none
 N0:mg "list"=none
 YS:mg "max"=none
 Qd:mg "range"=none
 Zq:mg "str"=none
 kc:mg "tuple"=none
 LM:mg "zip"=none
 RZ:∃t,mg "FIGURES"=some (.str "0123456789" t)
 UU:∃t,mg "MOST_PLACES"=some (.int 8 t)
 Wz:∃t,mg "NEW_TABLE"=some (.str "table " t)
noncomputable abbrev zO:bb:=["NoTable","NoPlace","NoText","NoLine"]
noncomputable abbrev Z7:bb:=["NoTable","NotSteady","NoPlace","NoKind","NoMix","NoNumber","NoLot","NoKinds","NoPaper","NoParting","NoClosed","TooMany","NoText","NoLine","NoDeed"]
def qj {K:Frag}(R:Z7.all (kL K zO)=true)(h:Z7.contains x=true:=by decide +kernel):kL K zO x=true:=bA.mp R x (List.contains_iff_mem.mp h)
def R3 {l:List (Str×NameKind)}(h:(l.all λy=>!(y.2==.cell))=true):∀y∈l,y.2≠.cell:=λy H e=>by
 have q:=bA.mp h y H;rw[e]at q;cases q
def yE {m:Ev}(h:zj X xr e m):SE X xr e m:=by rw[Qr]at h;exact h
abbrev WK:Stmt:=top 18
def TH:zV ["thing"] ["thing"] (zH WK):=qf (by kernel_rfl)
def Sd:Ex:=zl (zY (jK (jY .int zx) (jM (jY .bl zx)))) zy
abbrev KA:Stmt:=top 19
def VT:zV ["thing","limit"] ["thing","limit"] (zH KA):=qf (by kernel_rfl)
def V6 (J:Fn):Ex:=zl (zY (jK (z0 J (zh zx zt)) (yx ZJ Kk y8 zx zr))) zy
abbrev WC:Stmt:=top 20
def Tt:zV ["thing","many"] ["thing","many"] (zH WC):=qf (by kernel_rfl)
def T4 (J:Fn):Ex:=zl (zY (jK (jY .tup zx) (jK (zA ye (mQ yz (yb zx)) zr) (mQ Zu (qg 1 [] (qw zx) (qb 0) qF (qo (z0 J (zh zx zt)))))))) zy
abbrev Kz:Stmt:=top 21
def VO:zV ["thing","many","limit"] ["thing","many","limit"] (zH Kz):=qf (by kernel_rfl)
def VX (T:Fn):Ex:=zl (zY (jK (z0 T (zh zx (zh zr zt))) (mQ Zu (qg 1 [2] (qw zx) (qb 0) qF (qo (yx ZJ Kk y8 zx zr)))))) zy
abbrev WL:Stmt:=top 27
def Ws:zV ["thing","many"] ["thing"] (zH WL):=qf (by kernel_rfl)
def Ra (r:Fn)(v:Fn)(N:Fn):Ex:=zl (qv (Q4 (jM (jY .tup zx)) (jM (yx ZJ ZJ j0 (mQ yz (yb zx)) HP))) wX zy) (zl (zS 1 (mQ yz (yb zx))) (zl (qv (jM (mQ Zu (qg 1 [1] (qw zx) (qb 0) qF (qo (z0 v (zh zx (zh zr (zh zr zt)))))))) wX zy) (zl (zY (jK (z0 r (zh zx zt)) (z0 N (zh zx zt)))) zy)))
abbrev W3:Stmt:=top 28
def JN:zV ["rows","a","row","b","kind"] ["rows"] (zH W3):=qf (by kernel_rfl)
def RH:Ex:=zl (jB (wB zx) (j7 1 2) (zl (jB (wB qk) (j7 3 4) (zl (qv (Q4 (zA y0 (zA ye jP y8) (zA ye zr qp)) (zA y0 (zA qW (zA qW zx qp) zr) jP)) wX zy) zy)) zy)) (zl (zY qF) zy)
abbrev Ks:Stmt:=top 29
def Ko:zV ["rows","standing"] ["rows"] (zH Ks):=qf (by kernel_rfl)
def VM:Ex:=zl (zS 1 (jy (qg 2 [] (qw zx) (qb 0) qF (XH (qw zx) (qb 1) qF (qo zr))))) (zl (zY (mQ Zu (qg 1 [1] (Zr (mQ kX (yb zr))) (qb 0) qF (qo (zA Km zx zr))))) zy)
abbrev KJ:Stmt:=top 30
def V3:zV ["table"] ["table"] (zH KJ):=qf (by kernel_rfl)
def Ud (J:Fn):Ex:=zl (qv ((λρ A=>((jM (z0 J (zh zx zt))) ρ A).nox)) (zl (kg "NoTable" (zh (zq (.str "this is no table")) zt)) zy) zy) zy
abbrev K3:Stmt:=top 31
def Um:zV ["table"] ["table"] (zH K3):=qf (by kernel_rfl)
def UG:Ex:=zl (zY (zA qz (mQ kX (qg 1 [] (qw zx) (qb 0) qF (qo (mQ kX (yb zx))))) j0)) zy
abbrev Wb:Stmt:=top 33
def Uv:zV ["table","places"] ["table","places"] (zH Wb):=qf (by kernel_rfl)
def UA:Ex:=zl (zY (mQ yD (qg 1 [0,1] (qw zr) (qb 0) qF (qo (mQ yD (qg 1 [0,1] (qw qk) (qb 0) qF (qo (zA qW (zA qW qk zr) zx)))))))) zy
abbrev KN:Stmt:=top 34
def VZ:zV ["table","place"] ["table","place"] (zH KN):=qf (by kernel_rfl)
def Ua (v:Fn):Ex:=zl (qv ((λρ A=>((jM (z0 v (zh zr (zh (mQ yz (yb zx)) zt)))) ρ A).nox)) (zl (kg "NoPlace" (zh (zq (.str "the table has no such place")) zt)) zy) zy) zy
abbrev WE:Stmt:=top 35
def U6:zV ["table","one","other"] ["table","one","other"] (zH WE):=qf (by kernel_rfl)
def T3 (Z:Fn)(g:Fn)(v:Fn):Ex:=zl (qV (z0 v (zh zx zt))) (zl (qV (z0 g (zh zx (zh zr zt)))) (zl (qV (z0 g (zh zx (zh qk zt)))) ((λρ A=>((zl (zY (z0 Z (zh zx (zh zr (zh qk zt))))) zy) ρ A).nox))))
abbrev KO:Stmt:=top 36
def ZU:zV ["table","one","other","many","counts","i","j"] ["table","one","other"] (zH KO):=qf (by kernel_rfl)
def Uw (U:Fn):Ex:=zl (zS 3 (z0 U (zh zx zt))) (zl (zS 4 (jy (qg 1 [3] (Zr qp) (qb 0) qF (qo (zA wR (qe (zh y8 zt)) zr))))) (zl (jB (X8 (zA qW zx zr) (zA qW zx qk)) (j7 5 6) (zl (XF (zA qW jP gH) Vs j0) zy)) (zl (zY (mQ yD (qg 1 [] (qw jP) (qb 0) qF (qo (mQ yD (yb zx)))))) zy)))
abbrev Wj:Stmt:=top 37
def ZV:zV ["table","firsts","a","row","b","kind"] ["table"] (zH Wj):=qf (by kernel_rfl)
def US:Ex:=zl (zS 1 Y9) (zl (jB (wB zx) (j7 2 3) (zl (jB (wB qp) (j7 4 5) (zl (qV (Xg Ye zr gH (wM (zh qk (zh jP zt))))) zy)) zy)) (zl (zY zr) zy))
abbrev KQ:Stmt:=top 38
def gS:zV ["table","kind","a","b","shares","c","row","e","by"] ["table"] (zH KQ):=qf (by kernel_rfl)
def Uq (Z:Fn)(U:Fn):Ex:=zl (jB (Yx (z0 U (zh zx zt))) (YB 1 2 3) (zl (zS 4 (z0 Z (zh zx (zh qk (zh qp zt))))) (zl (jB (wB zx) (j7 5 6) (zl (jB (wB Vs) (j7 7 8) (zl (qv (jK (zA ye HS zr) (zA y0 (z0 Z (zh zx (zh gH (zh VA zt)))) jP)) (zl (zY (wM (zh qk (zh qp (zh gH (zh VA zt)))))) zy) zy) zy)) zy)) zy))) (zl (zY gG) zy)
abbrev Wo:Stmt:=top 46
def UH:zV ["rows"] ["rows"] (zH Wo):=qf (by kernel_rfl)
def Tq:Ex:=(λρ A=>((zl (zY (qS wH (zq (.str "/")) (jy (qg 1 [] (qw zx) (qb 0) qF (qo (qS wH (zq (.str "")) (jy (qg 1 [] (qw zx) (qb 0) qF (qo (qN Zw zx)))))))))) zy) ρ A).nox)
abbrev Wh:Stmt:=top 47
def Ux:zV ["text"] ["text"] (zH Wh):=qf (by kernel_rfl)
def UL:Ex:=zl (zY (Q5 (zA ye (qN QC zx) j0) (qS QE (zq (.str "0123456789")) zx) (qN ZH j0))) zy
abbrev Wr:Stmt:=top 48
def K9:zV ["text","rows"] ["text"] (zH Wr):=qf (by kernel_rfl)
def U9 (j:Fn)(J:Fn):Ex:=zl (qv ((λρ A=>((jM (jY .str zx)) ρ A).nox)) (zl (kg "NoText" (zh (zq (.str "this is no text")) zt)) zy) zy) (zl (zS 1 (λρ A=>((mQ yD (qg 1 [] (qw (qS gx zx (zq (.str "/")))) (qb 0) qF (qo (mQ yD (qg 1 [] (Vg zx) (qb 0) qF (qo (z0 J (zh zx zt)))))))) ρ A).nox)) (zl (qv ((λρ A=>((jM (z0 j (zh zr zt))) ρ A).nox)) (zl (kg "NoText" (zh (zq (.str "this is no text of a table")) zt)) zy) zy) ((λρ A=>((zl (zY zr) zy) ρ A).nox))))
abbrev WH:Stmt:=top 53
def JG:zV ["many","figures","one","other","numbers"] ["many","figures"] (zH WH):=qf (by kernel_rfl)
def TV:Ex:=zl (gD zr (j7 2 3)) (zl (zS 4 (G1 zx)) (zl (Qt kx qp jP qk) (zl (Qt kx qk jP qp) (zl (zY jP) zy))))
abbrev Ky:Stmt:=top 56
def Ku:zV ["table","figures","one","other"] ["table","figures"] (zH Ky):=qf (by kernel_rfl)
def VY (T:Fn)(U:Fn)(g:Fn):Ex:=zl (gD zr (j7 2 3)) (zl (qV (z0 g (zh zx (zh qk zt)))) (zl (qV (z0 g (zh zx (zh qp zt)))) (zl (qv ((λρ A=>((zA ye qk qp) ρ A).nox)) (zl (kg "NoPlace" (zh (zq (.str "these are no two unlike places")) zt)) zy) zy) ((λρ A=>((zl (zY (z0 U (zh zx (zh (z0 T (zh (mQ yz (yb zx)) (zh zr zt))) zt)))) zy) ρ A).nox)))))
abbrev Wn:Stmt:=top 57
def U1:zV ["table","figures"] ["table","figures"] (zH Wn):=qf (by kernel_rfl)
def Ts (J:Fn):Ex:=zl (zY (z0 J (zh zx zt))) zy
abbrev K5:Stmt:=top 58
def Us:zV ["table","figures"] ["table","figures"] (zH K5):=qf (by kernel_rfl)
def U3 (J:Fn):Ex:=(λρ A=>((zl (zY (Q5 (zA (gM false) (z0 J (zh zx zt)) gG) (zq (.str "yes")) (zq (.str "no")))) zy) ρ A).nox)
abbrev Wq:Stmt:=top 59
def Wk:zV ["table","figures","found"] ["table","figures"] (zH Wq):=qf (by kernel_rfl)
def Ti (J:Fn):Ex:=(λρ A=>((zl (zS 2 (z0 J (zh zx zt))) (zl (zY (Q5 (zA (gM false) qk gG) (zq (.str "none")) (qS wH (zq (.str " ")) (jy (qg 1 [] (qw qk) (qb 0) qF (qo (qN Zw zx))))))) zy)) ρ A).nox)
abbrev K6:Stmt:=top 60
def KS:zV ["table","figures","one","other"] ["table","figures"] (zH K6):=qf (by kernel_rfl)
def UI (T:Fn)(J:Fn):Ex:=zl (gD zr (j7 2 3)) (zl (zY (z0 J (zh (z0 T (zh zx (zh qk (zh qp zt)))) zt))) zy)
abbrev WS:Stmt:=top 65
def TR:zV ["word","many"] ["word","many"] (zH WS):=qf (by kernel_rfl)
def SN:Ex:=zl (qv (zA ye zx (zq (.str "most"))) (zl (zY (zA VG zr y8)) zy) zy) (zl (zY (zA ye (qN (XW Jl) zx) zr)) zy)
abbrev WG:Stmt:=top 66
def JE:zV ["line","word","behind","figures"] ["line"] (zH WG):=qf (by kernel_rfl)
def Wu (r:Fn)(J:Fn):Ex:=zl (qv ((λρ A=>((jM (jY .str zx)) ρ A).nox)) (zl (kg "NoLine" (zh (zq (.str "this is no text")) zt)) zy) zy) (zl (X0 1 2 (qS gx zx (zq (.str " ")))) (zl (zS 3 (λρ A=>((mQ yD (qg 1 [] (qw qk) (qb 0) qF (qo (z0 J (zh zx zt))))) ρ A).nox)) (zl (qv ((λρ A=>((Q4 (zA Km (qN ZH j0) qp) (jM (z0 r (zh zr (zh (mQ yz (yb qp)) zt))))) ρ A).nox)) (zl (kg "NoLine" (zh (zq (.str "the desk knows no such line")) zt)) zy) zy) ((λρ A=>((zl (zY (wM (zh zr (zh qp zt)))) zy) ρ A).nox)))))
abbrev Jp:Stmt:=top 69
def kG:zV ["_law_call","_law_error","e","_law_marks"] ["_law_call"] (zH Jp):=qf (by kernel_rfl)
def Jn:Ex:=zl (zS 3 (qe (zh (zZ (qa zO "NoTable") zr) (zh (zZ (qa zO "NotSteady") zr) (zh (zZ (qa zO "NoPlace") zr) zt))))) (zl (zS 3 (zA qz qp (qe (zh (zZ (qa zO "NoKind") zr) (zh (zZ (qa zO "NoMix") zr) (zh (zZ (qa zO "NoNumber") zr) zt)))))) (zl (zS 3 (zA qz qp (qe (zh (zZ (qa zO "NoLot") zr) (zh (zZ (qa zO "NoKinds") zr) (zh (zZ (qa zO "NoPaper") zr) zt)))))) (zl (zS 3 (zA qz qp (qe (zh (zZ (qa zO "NoParting") zr) (zh (zZ (qa zO "NoClosed") zr) (zh (zZ (qa zO "TooMany") zr) zt)))))) (zl (zS 3 (zA qz qp (qe (zh (zZ (qa zO "NoText") zr) (zh (zZ (qa zO "NoLine") zr) (zh (zZ (qa zO "NoDeed") zr) zt)))))) (zl (qv (jM (zZ (Kj zO) zr)) (zl (zY gG) zy) zy) (zl (zY (jy (qg 1 [3] (Zr (zq (.int 15))) (qb 0) (zA qW zr zx) (qo zx)))) zy))))))
def gT (PG:yY)(lam:Nat->Fn):Ex:=zl (zS 1 gG) (zl (ZC 0 1 2 zO PG lam) Jn)
def Ut {K:Frag}(T:Bu mg)(C:qG K zO "NearError")(R:Z7.all (kL K zO)=true)(F:jj K "_law_refused" "_law_refused" Jp f fd)(hm:mg "_law_refused"=some (.ref f)){PG:yY}{lam:Nat->Fn}(h:kk<=k)(L:∀k,wG P w K mg base kk (PG k) (lam k)):zL P w K mg base (k+1) "_law_refused" 1 (qu 4 (gT PG lam)):=
 jq F hm kG (λ_ _ _ _ _ _=>jQ λ_=>rfl) λc A outer s H E r=>zm (qi 1 kG.nd gj) (zm (ND L (r.mono h) rfl rfl C.top_at C.top_exc (by decide +kernel) C.under kG.nd rfl rfl rfl rfl rfl rfl rfl) (zm (qi 3 kG.nd (qP (zi (jG (C.isx (qj R)) (jH (qj R)) T.qH (zc 1)) (zi (jG (C.isx (qj R)) (jH (qj R)) T.qH (zc 1)) (zi (jG (C.isx (qj R)) (jH (qj R)) T.qH (zc 1)) zE))) (zp (zp (zp zN))))) (zm (qi 3 kG.nd (jT (zc 3) (qP (zi (jG (C.isx (qj R)) (jH (qj R)) T.qH (zc 1)) (zi (jG (C.isx (qj R)) (jH (qj R)) T.qH (zc 1)) (zi (jG (C.isx (qj R)) (jH (qj R)) T.qH (zc 1)) zE))) (zp (zp (zp zN)))))) (zm (qi 3 kG.nd (jT (zc 3) (qP (zi (jG (C.isx (qj R)) (jH (qj R)) T.qH (zc 1)) (zi (jG (C.isx (qj R)) (jH (qj R)) T.qH (zc 1)) (zi (jG (C.isx (qj R)) (jH (qj R)) T.qH (zc 1)) zE))) (zp (zp (zp zN)))))) (zm (qi 3 kG.nd (jT (zc 3) (qP (zi (jG (C.isx (qj R)) (jH (qj R)) T.qH (zc 1)) (zi (jG (C.isx (qj R)) (jH (qj R)) T.qH (zc 1)) (zi (jG (C.isx (qj R)) (jH (qj R)) T.qH (zc 1)) zE))) (zp (zp (zp zN)))))) (zm (qi 3 kG.nd (jT (zc 3) (qP (zi (jG (C.isx (qj R)) (jH (qj R)) T.qH (zc 1)) (zi (jG (C.isx (qj R)) (jH (qj R)) T.qH (zc 1)) (zi (jG (C.isx (qj R)) (jH (qj R)) T.qH (zc 1)) zE))) (zp (zp (zp zN)))))) (zm (jd (yN (yi (Oc C.isv T.qH T.U8 (by rfl) (zc 1)))) (zm (zX gj) zB) zB) (zm (zX (gh (jm (N:=["_law_k","_law_marks"]) 1 [3] (J4 rfl T.Qd qC) (λ_ _ _=>⟨qQ 0 (je (by kernel_rfl)),P6 (yi (yw (zc 1) (zc 0))),ji (zc 0)⟩)))) zB))))))))
abbrev WN:Stmt:=top 70
def y9:zV ["_law_k","_law_some"] ["_law_k"] (zH WN):=qf (by kernel_rfl)
def WJ:Ex:=zl (zS 1 (qe (zh (zq (.str "")) (zh (zq (.str " ")) (zh (zq (.str "tables")) (zh (zq (.str "Table 0")) (zh (zq (.str " table 0")) (zh (zq (.str "table2 0")) (zh (zq (.str "one")) (zh (zq (.str "one ")) (zh (zq (.str "one 1")) (zh (zq (.str "one 1 ")) zt)))))))))))) (zl (zS 1 (zA qz zr (qe (zh (zq (.str "one 1 2 3")) (zh (zq (.str "one  1 2")) zt))))) (zl (zS 1 (zA qz zr (qe (zh (zq (.str "one x 1")) (zh (zq (.str "one 1 x")) (zh (zq (.str "one 01 2")) (zh (zq (.str "one 1 -2")) (zh (zq (.str "one 1-2")) (zh (zq (.str "ones 1 2")) (zh (zq (.str "kinds")) (zh (zq (.str "kinds 1")) zt))))))))))) (zl (qV (kN yM zr (zq (.str "kinds 1 2 3")))) (zl (zS 1 (zA qz zr (qe (zh (zq (.str "kinds 1 x")) (zh (zq (.str "kind 1 2")) (zh (zq (.str "places")) (zh (zq (.str "places 0")) (zh (zq (.str "places 0 1 2")) (zh (zq (.str "places 0 10")) (zh (zq (.str "place 0 1")) (zh (zq (.str "back ")) zt))))))))))) (zl (zS 1 (zA qz zr (qe (zh (zq (.str "back 1")) (zh (zq (.str "steady ")) (zh (zq (.str "steady 1")) (zh (zq (.str "break ")) (zh (zq (.str "break 0")) (zh (zq (.str "breaks")) (zh (zq (.str "shares")) (zh (zq (.str "shares 0")) (zh (zq (.str "shares 0 0 0")) zt)))))))))))) (zl (zS 1 (zA qz zr (qe (zh (zq (.str "share 0 0")) (zh (zq (.str "shares 0 x")) (zh (zq (.str "most")) (zh (zq (.str "most ")) (zh (zq (.str "most x")) (zh (zq (.str "most 1 ")) (zh (zq (.str "most 1  2")) (zh (zq (.str "most 12")) (zh (zq (.str "mosts 1")) zt)))))))))))) (zl (zS 1 (zA qz zr (qe (zh (zq (.str "none")) (zh (zq (.str "0")) (zh (zq (.str "undo")) zt)))))) (zl (zS 1 (zA qz zr (qe (zh gG (zh HJ (zh qF (zh (wM (zh (zq (.str "table")) zt)) (zh (qe (zh (zq (.str "steady")) zt)) (zh Y9 (zh (zq (.str "steady\n")) (zh (wM (zh (wM (zh y8 zt)) zt)) zt))))))))))) (zl (zY (zA qW zr (zA kj zx (mQ yz (yb zr))))) zy)))))))))
abbrev Zk:Stmt:=top 71
def wu:zV ["_law_script","_law_desk","_law_words","_law_told","_law_word","_law_cell","_law_line"] ["_law_script"] (zH Zk):=qf (by kernel_rfl)
noncomputable abbrev qR:Str:=(("law":Str)++(".<locals>.":Str))++("<lambda>":Str)
def wj (y:Fn):Lm:=HB (Hh (Hi (Ha (Hw ((jx Zk).getD 5 Zg) 1))) 0) ["_law_desk","_law_line"] [1,6] (qB "Desk" "say" y zx (zh zr zt))
def Pc {K:Frag}(T:Bu mg){y:Fn}(S:∀base,jE P w K mg base k "Desk" "say" 2 y):QT P w K mg k qR (wj y):=
 ⟨⟨rfl,rfl,rfl,R3 (by kernel_rfl)⟩,λ_ _ _ _=>rfl,λbase cl a c A outer s H E h x=>yE (Yl x (S base) h (zc 0) (zi (zc 1) zE) (zp zN))⟩
def YV (Z:Fn)(w:Fn)(z:Fn)(y:Fn)(RG:Lm->Nat->List W->Hx->R W)(Pt:Addr):Ex:=zl (zS 1 (YN "Desk" Z)) (zl (qv (zA ye (zA kj (zA qW (zA qz (wF zx Q2 (kS j0)) (qe (zh y8 zt))) y8) Vz) j0) (zl (qV (qB "Desk" "say" w zr (zh (zq (.str "table 0121/1012/2101/1210")) zt))) (zl (qV (qB "Desk" "say" w zr (zh (zq (.str "places 0 1")) zt))) zy)) zy) (zl (zS 2 (qe (zh (zq (.str "table")) (zh (zq (.str "steady")) (zh (zq (.str "break")) (zh (zq (.str "shares 0 0")) zt)))))) (zl (zS 3 (qe zt)) (zl (jB (qw qk) (qb 4) (zl (qV (kN yM qp (qB "Desk" "say" w zr (zh jP zt)))) zy)) (zl (jB (qw (zA qz (wF zx (kS j0) (kS (zq (.int 31)))) (qe (zh HN zt)))) (qb 5) (zl (zS 6 (z0 z (zh (zA kj gH (zq (.int 2147483647))) zt))) (zl (qv (zA y0 (gz 1 qR Pt (wj y).idx (RG (wj y) 0)) (qe (zh (zq (.int 13)) zt))) wX zy) (zl (qv (zA y0 (jy (qg 1 [1] (qw qk) (qb 0) qF (qo (qB "Desk" "say" w zr (zh zx zt))))) qp) wX zy) zy)))) (zl (zY qF) zy))))))
def o_law {K:Frag}(T:Bu mg)(F:jj K "law" "law" Zk f fd)(hn:nsIn K mainGlobals "law"=some (some (.ref f)))(d:tabIn K "law"=some (c,Pt))(B:BMain mg base)(C:CodeHd base c Pt)(D:Dk K){Z:Fn}{ki:Nat}(i:ki+1<=k)(k8:y7 P w K mg base ki "Desk" "__init__" 1 Z){b:Fn}(qK:y7 P w K mg base k "Desk" "say" 2 b){z:Fn}(wc:zL P w K mg base k "_law_bad" 1 z){RG:Lm->Nat->List W->Hx->R W}(a:kk<=k){y:Fn}(XL_Desk_say:∀base,jE P w K mg base j "Desk" "say" 2 y)(e:∀t base PG,(∀k,wG P w K mg base (j+1) (PG k) (yc [t] k))->zL P w K mg base kk "_law_refused" 1 (kT PG (RG t))):qA P w K mg base jS (k+1) f fd ["_law_script"] (yn K 1 (qu 7 (YV Z b z y RG Pt))):=
 LZ F hn d wu λA outer s H E h=>zm (qi 1 wu.nd (Rk k8 D.mak (h.mono i))) (zm (jd (j5 (yS h) (Yb (yw (jT (Gs (zc 0) Ma (Yi qC)) (qP (zi qC zE) (zp zN))) qC) qC) qC) (zm (yt (Qg qK h (zc 1) (zi zD zE) (zp zN))) (zm (yt (Qg qK h (zc 1) (zi zD zE) (zp zN))) zB)) zB) (zm (qi 2 wu.nd (qP (zi zD (zi zD (zi zD (zi zD zE)))) (zp (zp (zp (zp zN)))))) (zm (qi 3 wu.nd (qP zE zN)) (zm (yP PassesOwn.never rfl (jo (zc 2)) (qQ 4 wu.nd) (zm (yt (JM (zc 3) (Qg qK h (zc 1) (zi (zc 4) zE) (zp zN)))) zB)) (zm (yP PassesOwn.never rfl (jo (jT (Gs (zc 0) (Yi qC) (Yi qC)) (qP (zi qC zE) (zp zN)))) (qQ 5 wu.nd) (zm (qi 6 wu.nd (qL wc h (zi (Yb (zc 5) qC) zE))) (zm (jd (j5 (Zp h) (Pw (t:=wj y) (Mv λ_=>rfl) (Pc T XL_Desk_say) (by kernel_rfl) (e _) (h.mono a) B rfl C rfl rfl) (qP (zi qC zE) (zp zN))) (zm (zX kK) zB) zB) (zm (jd (j5 (Zp h) (gh (jm (N:=["_law_word","_law_desk"]) 1 [1] (jo (zc 2)) (λ_ _ _=>⟨qQ 0 (je (by kernel_rfl)),jg,ji (Qg qK h (zc 1) (zi (zc 0) zE) (zp zN))⟩))) (zc 3)) (zm (zX kK) zB) zB) zB)))) (zm (zX kK) zB))))))
abbrev Jo:Stmt:=Y6 (top 67) 0
def V0:zV ["self"] ["self"] (zH Jo):=qf (by kernel_rfl)
def KI:Ex:=(λρ A=>((zl (X9 "Desk" "tables" (qe (zh (zq (.tup [.tup [.int 0]])) zt)) zx) zy) ρ A).nox)
def Ue {K:Frag}(T:Bu mg)(C:qG K zO "NearError")(F:jj K "__init__" "Desk.__init__" Jo f fd)(hm:Meth K (clsAt K "Desk") "__init__" f)(D:Dk K):jE P w K mg base (k+1) "Desk" "__init__" 1 (qU 1 KI):=
 YT F D.cl hm V0 (λ_ _ _ _ _ _=>jQ λ_=>rfl) λc A outer s H E h x=>ka (zm (OW D.cl D.na_tables (qP (zi (RD D.t_FIRST_TABLE) zE) (zp zN)) (zc 0)) zB)
abbrev JP:Stmt:=Y6 (top 67) 1
def TX:zV ["self","table"] ["self","table"] (zH JP):=qf (by kernel_rfl)
def WY:Ex:=(λρ A=>((zl (qV (kN yM (Kc "Desk" "tables" zx) zr)) (zl (zY (zq (.str "ok"))) zy)) ρ A).nox)
def SU {K:Frag}(T:Bu mg)(C:qG K zO "NearError")(F:jj K "lay" "Desk.lay" JP f fd)(hm:Meth K (clsAt K "Desk") "lay" f)(D:Dk K):jE P w K mg base (k+1) "Desk" "lay" 2 (qU 2 WY):=
 YT F D.cl hm TX (λ_ _ _ _ _ _=>yf λ_ _=>rfl) λc A outer s H E h x=>ka (zm (yt (JM (GZ D.cl D.na_tables (zc 0)) (zc 1))) (zm (zX zD) zB))
abbrev JO:Stmt:=Y6 (top 67) 3
def g8:zV ["self","line","word","figures","table","deed","question"] ["self","line"] (zH JO):=qf (by kernel_rfl)
def JL (g:Fn)(Q:Fn)(z:Fn)(X:Fn)(Y:Fn)(U:Fn)(a:Fn)(Z:Fn):Ex:=zl (qv ((λρ A=>((jK (jY .str zr) (qS w8 zr (zq (.str "table ")))) ρ A).nox)) (zl (zY (qB "Desk" "lay" g zx (zh (z0 X (zh (qS gX zr (zq (.str "table "))) zt)) zt))) zy) zy) (zl (gD (z0 z (zh zr zt)) (j7 2 3)) (zl (qv ((λρ A=>((zA ye qk (zq (.str "back"))) ρ A).nox)) (zl (zY ((λ_ _=>.bad))) zy) zy) (zl (zS 4 (zA qW (Kc "Desk" "tables" zx) (qN ZH j0))) (zl (qv ((λρ A=>((zA (QK "DEEDS" Z9) qk (zq (.fn "DEEDS"))) ρ A).nox)) (zl (zS 5 (qN (QA Z9) qk)) (zl (zY (qB "Desk" "lay" g zx (zh (Qs 5 [("exchange_places",Q)] (zh jP (zh qp zt))) zt))) zy)) zy) (zl (zS 6 (qN (QA JD) qk)) (zl (zY (Qs 6 [("tell_table",Z),("tell_steady",a),("tell_break",Y),("tell_shares",U)] (zh jP (zh qp zt)))) zy))))))
def So {K:Frag}(T:Bu mg)(C:qG K zO "NearError")(F:jj K "say" "Desk.say" JO f fd)(hm:Meth K (clsAt K "Desk") "say" f)(D:Dk K){b:Fn}(c:jE P w K mg base k "Desk" "lay" 2 b){Q:Fn}(S:zU P w K mg base k "exchange_places" 2 Q){Z:Fn}(i:zU P w K mg base k "read_line" 1 Z){z:Fn}(t:zU P w K mg base k "read_table" 1 z){Y:Fn}(d:zU P w K mg base k "tell_break" 2 Y){U:Fn}(M:zU P w K mg base k "tell_shares" 2 U){a:Fn}(u:zU P w K mg base k "tell_steady" 2 a){g:Fn}(e:zU P w K mg base k "tell_table" 2 g):jE P w K mg base (k+1) "Desk" "say" 2 (qU 7 (JL b Q Z z Y U a g)):=
 YT F D.cl hm g8 (λ_ _ _ _ _ _=>yf λ_ _=>rfl) λv A outer s H E r x=>zm (jd (yO (Za (GR (yi (wq .str T.qH T.Zq (by rfl) (zc 1))) (GI (yi (Up (zc 1) (JV rfl T.Wz.choose_spec))))))) (zm (zX (Yl x c r (zc 0) (zi (yK x t r (zi (V2 (zc 1) (JV rfl T.Wz.choose_spec)) zE)) zE) (zp zN))) zB) zB) (zm (Qm (yK x i r (zi (zc 1) zE)) (yu 2 3 rfl g8.nd)) (zm (jd (yO (j5 (yS r) (zc 2) zD)) (zm (zX NM) zB) zB) (zm (qi 4 g8.nd (yw (GZ D.cl D.na_tables (zc 0)) (J8 qC))) (zm (jd (yO (Xw (LD D.g_DEEDS) (zc 2) (Mx D.g_DEEDS.nm))) (zm (qi 5 g8.nd (GF D.g_DEEDS (zc 2))) (zm (zX (Yl x c r (zc 0) (zi (W4 (fs:=[("exchange_places",Q)]) x (List.forall_mem_cons.mpr ⟨S,(λ_ h=>nomatch h)⟩) r (zi (zc 4) (zi (zc 3) zE)) (zp (zp zN))) zE) (zp zN))) zB)) zB) (zm (qi 6 g8.nd (GF D.g_QUESTIONS (zc 2))) (zm (zX (W4 (fs:=[("tell_table",g),("tell_steady",a),("tell_break",Y),("tell_shares",U)]) x (List.forall_mem_cons.mpr ⟨e,(List.forall_mem_cons.mpr ⟨u,(List.forall_mem_cons.mpr ⟨d,(List.forall_mem_cons.mpr ⟨M,(λ_ h=>nomatch h)⟩)⟩)⟩)⟩) r (zi (zc 4) (zi (zc 3) zE)) (zp (zp zN)))) zB))))))
def WT:Fn:=qu 1 Sd
def JR:Fn :=  WT
def Ga:Fn:=qu 5 RH
def Gp:Fn:=iso Ga
def Kr:Fn:=qu 2 VM
def Kq:Fn:=iso Kr
def K7:Fn:=qu 1 UG
def K4:Fn:=iso K7
def We:Fn:=qu 2 UA
def Wg:Fn :=  We
def Wc:Fn:=qu 6 US
def Wl:Fn:=iso Wc
def K0:Fn:=qU 1 Tq
def JC:Fn:=yj K0
def Wd:Fn:=qu 1 UL
def JA:Fn:=iso Wd
def WD:Fn:=qu 5 TV
def Wy:Fn:=iso WD
def WX:Fn:=qu 2 SN
def WQ:Fn:=iso WX
def ZZ:Fn:=qu 2 WJ
def wc:Fn:=iso ZZ
def KD:Fn:=qU 1 KI
def k8:Fn:=λws A=>(KD ws A).nox
def WB:Fn:=qU 2 WY
def KC:Fn:=qu 2 (V6 JR)
def KG:Fn :=  KC
def WI:Fn:=qu 2 (T4 JR)
def Wx:Fn :=  WI
def KU:Fn:=qu 7 (Uw K4)
def Jv:Fn:=iso KU
def K1:Fn:=qU 2 (Ts JC)
def Wa:Fn:=yj K1
def JB:Fn:=qU 4 (Wu WQ JA)
def w6:Fn:=yj JB
def Kx:Fn:=qu 3 (VX Wx)
def Kw:Fn :=  Kx
def ZS:Fn:=qU 2 (Ua KG)
def KW:Fn:=qu 9 (Uq Jv Wl)
def Jr:Fn:=iso KW
def WO:Fn:=qu 2 (Ra Gp Kw Kq)
def JH:Fn :=  WO
def Kt:Fn:=qU 4 (VY Wy Wg ZS)
def Kv:Fn:=yj Kt
def KL:Fn:=qU 2 (U3 Jr)
def KZ:Fn:=yj KL
def KR:Fn:=qU 3 (Ti Jr)
def K8:Fn:=yj KR
def Jm:Fn:=qU 1 (Ud JH)
def KP:Fn:=qU 2 (U9 JH JA)
def Wm:Fn:=yj KP
def JF:Fn:=qU 3 (T3 Jv ZS Jm)
def KH:Fn:=qU 4 (UI JF JC)
def KY:Fn:=yj KH
def yI:Fn:=qU 7 (JL WB Kv w6 Wm K8 KY KZ Wa)
def qK:Fn:=λws A=>(yI ws A).nox
structure Tx (K:Frag):Prop where
 Sn:FD K "is_whole" WK
 R1:FD K "is_even" W3
 VL:FD K "leaves_no_kind_out" Ks
 Uy:FD K "count_kinds" K3
 UR:FD K "take_places" Wb
 UE:FD K "first_pairs" Wj
 Tf:FD K "write_rows" Wo
 U2:FD K "read_figure" Wh
 TF:FD K "exchanged" WH
 Sx:FD K "may_have" WS
 S8:FD K "_law_bad" WN
 Ug:MD K "Desk" "__init__" "Desk.__init__" Jo
 SY:MD K "Desk" "lay" "Desk.lay" JP
 V4:FD K "is_whole_below" KA
 Tz:FD K "is_wholes" WC
 Uo:FD K "count_shares" KO
 Td:FD K "tell_table" Wn
 Tw:FD K "read_line" WG
 VR:FD K "is_wholes_below" Kz
 Uc:FD K "require_place" KN
 Uk:FD K "search_break" KQ
 Sq:FD K "is_table" WL
 VV:FD K "exchange_places" Ky
 UP:FD K "tell_steady" K5
 Te:FD K "tell_break" Wq
 Ui:FD K "require_table" KJ
 Tb:FD K "read_table" Wr
 Tv:FD K "shares_of" WE
 UK:FD K "tell_shares" K6
 Se:MD K "Desk" "say" "Desk.say" JO
 Ur:FD K "_law_refused" Jp
 Ie:FD K "law" Zk
 k_dk:Kl K=true
 t_FIRST_TABLE:ZN K "FIRST_TABLE" (.tup [.tup [.int 0]])
 Tj:nsIn K mainGlobals "ValueError"=some none
 LY:nsIn K mainGlobals "all"=some none
 MN:nsIn K mainGlobals "bool"=some none
 TM:nsIn K mainGlobals "enumerate"=some none
 LK:nsIn K mainGlobals "int"=some none
 Tu:nsIn K mainGlobals "isinstance"=some none
 Iq:nsIn K mainGlobals "len"=some none
 NL:nsIn K mainGlobals "list"=some none
 IP:nsIn K mainGlobals "max"=some none
 OE:nsIn K mainGlobals "range"=some none
 LB:nsIn K mainGlobals "str"=some none
 NB:nsIn K mainGlobals "tuple"=some none
 IV:nsIn K mainGlobals "zip"=some none
 RR:Kf K "FIGURES" "0123456789"
 UJ:CD K "MOST_PLACES" 8
 T8:Kf K "NEW_TABLE" "table "
 Io:zO.all (Qv K "NearError" ·)=true
 LJ:Yt K "NearError"=true
 Ij:Z7.all (kL K zO)=true
section
variable {K:Frag}
def dk (T:Tx K):Dk K:=Ic T.k_dk T.t_FIRST_TABLE
def bu (X:K.In h)(G:h.Ns mainGlobals mg)(T:Tx K):Bu mg:=⟨aJ X G T.Tj,aJ X G T.LY,aJ X G T.MN,aJ X G T.TM,aJ X G T.LK,aJ X G T.Tu,aJ X G T.Iq,aJ X G T.NL,aJ X G T.IP,aJ X G T.OE,aJ X G T.LB,aJ X G T.NB,aJ X G T.IV,(let ⟨t,e⟩:=T.RR;⟨t,aG X G e⟩),(let ⟨t,e⟩:=T.UJ;⟨t,aG X G e⟩),(let ⟨t,e⟩:=T.T8;⟨t,aG X G e⟩)⟩
def cl (T:Tx K):qG K zO "NearError":=M6 T.Io T.LJ
structure Zz (K:Frag)(h:Heap)(mg:bh):Prop where
 X:K.In h
 G:h.Ns mainGlobals mg
 T:Tx K
 B:Bu mg
 C:qG K zO "NearError"
def zz (X:K.In h)(G:h.Ns mainGlobals mg)(T:Tx K):Zz K h mg:=⟨X,G,T,bu X G T,cl T⟩
def WR (Z:Zz K h mg):zL P w K mg base 1 "is_whole" 1 JR:=by
 obtain⟨f,fd,F,a⟩:=Z.T.Sn;exact(jq F (aG Z.X Z.G a) TH (λ_ _ _ _ _ _=>jQ λ_=>rfl) λc A outer s H E r=>zm (zX (gk (wq .int Z.B.qH Z.B.LR (by rfl) (zc 0)) (Zc (O3 (wq .bl Z.B.qH Z.B.NR (by rfl) (zc 0)))))) (zB):zL P w K mg base 1 "is_whole" 1 WT)
def RM (Z:Zz K h mg):zL P w K mg base 1 "is_even" 1 Gp:=by
 obtain⟨f,fd,F,a⟩:=Z.T.R1;exact(jq F (aG Z.X Z.G a) JN (λ_ _ _ _ _ _=>jQ λ_=>rfl) λc A outer s H E r=>zm (yP PassesOwn.never rfl (gf rfl Z.B.w9 (zc 0)) (yu 1 2 rfl JN.nd) (zm (yP PassesOwn.never rfl (gf rfl Z.B.w9 (zc 2)) (yu 3 4 rfl JN.nd) (zm (jd (Za (Yr (j5 (Zp r) (Zo (yS r) (zc 4) qC) (Zo (yS r) (zc 1) (zc 3))) (Ym (j5 (Zp r) (yw (yw (zc 0) (zc 3)) (zc 1)) (zc 4))))) (zm (zX kK) zB) zB) zB)) zB)) (zm (zX kK) zB):zL P w K mg base 1 "is_even" 1 Ga).iso
def VJ (Z:Zz K h mg):zL P w K mg base 1 "leaves_no_kind_out" 1 Kq:=by
 obtain⟨f,fd,F,a⟩:=Z.T.VL;exact(jq F (aG Z.X Z.G a) Ko (λ_ _ _ _ _ _=>jQ λ_=>rfl) λc A outer s H E r=>zm (qi 1 Ko.nd (gh (jm (N:=["row","kind"]) 2 [] (jo (zc 0)) (λ_ _ _=>⟨qQ 0 (je (by kernel_rfl)),jg,OS (λ_ _ z=>z) rfl rfl (by intro _ h;cases h<;>rfl) (jo (zc 0)) (qQ 1 (je (by kernel_rfl))) jg (ji (zc 1))⟩)))) (zm (zX (Qp rfl Z.B.QB (yy (jm (N:=["kind","standing"]) 1 [1] (J4 rfl Z.B.Qd (J0 rfl Z.B.YS (yT (zc 1)))) (λ_ _ _=>⟨qQ 0 (je (by kernel_rfl)),jg,ji (Lp Vp (zc 0) (zc 1))⟩))))) zB):zL P w K mg base 1 "leaves_no_kind_out" 1 Kr).iso
def UN (Z:Zz K h mg):zL P w K mg base 1 "count_kinds" 1 K4:=by
 obtain⟨f,fd,F,a⟩:=Z.T.Uy;exact(jq F (aG Z.X Z.G a) Um (λ_ _ _ _ _ _=>jQ λ_=>rfl) λc A outer s H E r=>zm (zX (jT (J0 rfl Z.B.YS (yy (jm (N:=["row"]) 1 [] (jo (zc 0)) (λ_ _ _=>⟨qQ 0 (je (by kernel_rfl)),jg,ji (J0 rfl Z.B.YS (yT (zc 0)))⟩)))) qC)) (zB):zL P w K mg base 1 "count_kinds" 1 K7).iso
def UW (Z:Zz K h mg):zL P w K mg base 1 "take_places" 2 Wg:=by
 obtain⟨f,fd,F,a⟩:=Z.T.UR;exact(jq F (aG Z.X Z.G a) Uv (λ_ _ _ _ _ _=>yf λ_ _=>rfl) λc A outer s H E r=>zm (zX (wd Z.B.kc (yy (jm (N:=["a","table","places"]) 1 [0,1] (jo (zc 1)) (λ_ _ _=>⟨qQ 0 (je (by kernel_rfl)),jg,ji (wd Z.B.kc (yy (jm (N:=["b","a","table"]) 1 [0,1] (jo (zc 2)) (λ_ _ _=>⟨qQ 0 (je (by kernel_rfl)),jg,ji (yw (yw (zc 2) (zc 1)) (zc 0))⟩))))⟩))))) (zB):zL P w K mg base 1 "take_places" 2 We)
def UQ (Z:Zz K h mg):zL P w K mg base 1 "first_pairs" 1 Wl:=by
 obtain⟨f,fd,F,a⟩:=Z.T.UE;exact(jq F (aG Z.X Z.G a) ZV (λ_ _ _ _ _ _=>jQ λ_=>rfl) λc A outer s H E r=>zm (qi 1 ZV.nd GY) (zm (yP PassesOwn.never rfl (gf rfl Z.B.w9 (zc 0)) (yu 2 3 rfl ZV.nd) (zm (yP PassesOwn.never rfl (gf rfl Z.B.w9 (zc 3)) (yu 4 5 rfl ZV.nd) (zm (yt (Su (zc 1) (zc 5) (gi (zi (zc 2) (zi (zc 4) zE)) (zp (zp zN))))) zB)) zB)) (zm (zX (zc 1)) zB)):zL P w K mg base 1 "first_pairs" 1 Wc).iso
def Wf (Z:Zz K h mg):zU P w K mg base 1 "write_rows" 1 JC:=by
 obtain⟨f,fd,F,a⟩:=Z.T.Tf;exact(yC F (aG Z.X Z.G a) UH (λ_ _ _ _ _ _=>jQ λ_=>rfl) λc A outer s H E r x=>ka (zm (zX (J3 zD (gh (jm (N:=["row"]) 1 [] (jo (zc 0)) (λ_ _ _=>⟨qQ 0 (je (by kernel_rfl)),jg,ji (J3 zD (gh (jm (N:=["part"]) 1 [] (jo (zc 0)) (λ_ _ _=>⟨qQ 0 (je (by kernel_rfl)),jg,ji (Gm Z.B.Zq (zc 0))⟩))))⟩))))) zB):zU P w K mg base 1 "write_rows" 1 K0).iso
def Wi (Z:Zz K h mg):zL P w K mg base 1 "read_figure" 1 JA:=by
 obtain⟨f,fd,F,a⟩:=Z.T.U2;exact(jq F (aG Z.X Z.G a) Ux (λ_ _ _ _ _ _=>jQ λ_=>rfl) λc A outer s H E r=>zm (zX (YD (j5 (yS r) (Ou Z.B.kM (zc 0)) qC) (P2 (JV rfl Z.B.RZ.choose_spec) (zc 0)) (J8 qC))) (zB):zL P w K mg base 1 "read_figure" 1 Wd).iso
def TL (Z:Zz K h mg):zL P w K mg base 1 "exchanged" 2 Wy:=by
 obtain⟨f,fd,F,a⟩:=Z.T.TF;exact(jq F (aG Z.X Z.G a) JG (λ_ _ _ _ _ _=>yf λ_ _=>rfl) λc A outer s H E r=>zm (Qm (zc 1) (yu 2 3 rfl JG.nd)) (zm (qi 4 JG.nd (Sb rfl Z.B.N0 Z.B.Qd (zc 0))) (zm (GQ (zc 3) (zc 4) (zc 2)) (zm (GQ (zc 2) (zc 4) (zc 3)) (zm (zX (zc 4)) zB)))):zL P w K mg base 1 "exchanged" 2 WD).iso
def Sk (Z:Zz K h mg):zL P w K mg base 1 "may_have" 2 WQ:=by
 obtain⟨f,fd,F,a⟩:=Z.T.Sx;exact(jq F (aG Z.X Z.G a) TR (λ_ _ _ _ _ _=>yf λ_ _=>rfl) λc A outer s H E r=>zm (jd (j5 (yS r) (zc 0) zD) (zm (zX (Zo Hm (zc 1) qC)) zB) zB) (zm (zX (Zo (yS r) (PR (dk Z.T).g_FIGURES_BEHIND (zc 0)) (zc 1))) zB):zL P w K mg base 1 "may_have" 2 WX).iso
def Sy (Z:Zz K h mg):zL P w K mg base 1 "_law_bad" 1 wc:=by
 obtain⟨f,fd,F,a⟩:=Z.T.S8;exact(jq F (aG Z.X Z.G a) y9 (λ_ _ _ _ _ _=>jQ λ_=>rfl) λc A outer s H E r=>zm (qi 1 y9.nd (qP (zi zD (zi zD (zi zD (zi zD (zi zD (zi zD (zi zD (zi zD (zi zD (zi zD zE)))))))))) (zp (zp (zp (zp (zp (zp (zp (zp (zp (zp zN)))))))))))) (zm (qi 1 y9.nd (jT (zc 1) (qP (zi zD (zi zD zE)) (zp (zp zN))))) (zm (qi 1 y9.nd (jT (zc 1) (qP (zi zD (zi zD (zi zD (zi zD (zi zD (zi zD (zi zD (zi zD zE)))))))) (zp (zp (zp (zp (zp (zp (zp (zp zN))))))))))) (zm (yt (JM (zc 1) zD)) (zm (qi 1 y9.nd (jT (zc 1) (qP (zi zD (zi zD (zi zD (zi zD (zi zD (zi zD (zi zD (zi zD zE)))))))) (zp (zp (zp (zp (zp (zp (zp (zp zN))))))))))) (zm (qi 1 y9.nd (jT (zc 1) (qP (zi zD (zi zD (zi zD (zi zD (zi zD (zi zD (zi zD (zi zD (zi zD zE))))))))) (zp (zp (zp (zp (zp (zp (zp (zp (zp zN)))))))))))) (zm (qi 1 y9.nd (jT (zc 1) (qP (zi zD (zi zD (zi zD (zi zD (zi zD (zi zD (zi zD (zi zD (zi zD zE))))))))) (zp (zp (zp (zp (zp (zp (zp (zp (zp zN)))))))))))) (zm (qi 1 y9.nd (jT (zc 1) (qP (zi zD (zi zD (zi zD zE))) (zp (zp (zp zN)))))) (zm (qi 1 y9.nd (jT (zc 1) (qP (zi gj (zi qC (zi kK (zi (gi (zi zD zE) (zp zN)) (zi (qP (zi zD zE) (zp zN)) (zi GY (zi zD (zi (gi (zi (gi (zi qC zE) (zp zN)) zE) (zp zN)) zE)))))))) (zp (zp (zp (zp (zp (zp (zp (zp zN))))))))))) (zm (zX (yw (zc 1) (Yb (zc 0) (wm Z.B.kM (yT (zc 1)))))) zB))))))))):zL P w K mg base 1 "_law_bad" 1 ZZ).iso
def V9 (Z:Zz K h mg):jE P w K mg base 1 "Desk" "__init__" 1 KD:=by
 obtain⟨f,fd,F,a⟩:=Z.T.Ug;exact Ue (k:=0) Z.B Z.C F a (dk Z.T)
def Uh (Z:Zz K h mg):y7 P w K mg base 1 "Desk" "__init__" 1 k8:=(V9 Z).m
def TU (Z:Zz K h mg):jE P w K mg base 1 "Desk" "lay" 2 WB:=by
 obtain⟨f,fd,F,a⟩:=Z.T.SY;exact SU (k:=0) Z.B Z.C F a (dk Z.T)
def V1 (Z:Zz K h mg):zL P w K mg base 2 "is_whole_below" 2 KG:=by
 obtain⟨f,fd,F,a⟩:=Z.T.V4;exact(jq F (aG Z.X Z.G a) VT (λ_ _ _ _ _ _=>yf λ_ _=>rfl) λc A outer s H E r=>zm (zX (gk (qL (WR Z).up r (zi (zc 0) zE)) (Zc (Xr QH Vk qC (zc 0) (zc 1))))) (zB):zL P w K mg base 2 "is_whole_below" 2 KC)
def T1 (Z:Zz K h mg):zL P w K mg base 2 "is_wholes" 2 Wx:=by
 obtain⟨f,fd,F,a⟩:=Z.T.Tz;exact(jq F (aG Z.X Z.G a) Tt (λ_ _ _ _ _ _=>yf λ_ _=>rfl) λc A outer s H E r=>zm (zX (gk (wq .tup Z.B.qH Z.B.kc (by rfl) (zc 0)) (gk (Zo (yS r) (wm Z.B.kM (yT (zc 0))) (zc 1)) (Zc (Qp rfl Z.B.QB (yy (jm (N:=["part"]) 1 [] (jo (zc 0)) (λ_ _ _=>⟨qQ 0 (je (by kernel_rfl)),jg,ji (qL (WR Z).up r (zi (zc 0) zE))⟩)))))))) (zB):zL P w K mg base 2 "is_wholes" 2 WI)
def Js (Z:Zz K h mg):zL P w K mg base 2 "count_shares" 3 Jv:=by
 obtain⟨f,fd,F,a⟩:=Z.T.Uo;exact(jq F (aG Z.X Z.G a) ZU (λ_ _ _ _ _ _=>Kg λ_ _ _=>rfl) λc A outer s H E r=>zm (qi 3 ZU.nd (qL (UN Z).up r (zi (zc 0) zE))) (zm (TQ 4 (N:=["kind","many"]) 1 [3] ZU.nd rfl (cps (by kernel_rfl)) (by kernel_rfl) (J4 rfl Z.B.Qd (zc 3)) (λ_ _ _=>⟨qQ 0 (je (by kernel_rfl)),jg,ji (OB (qP (zi qC zE) (zp zN)) (zc 1))⟩)) (zm (yP PassesOwn.never rfl (O6 rfl Z.B.LM (yw (zc 0) (zc 1)) (yw (zc 0) (zc 2))) (yu 5 6 rfl ZU.nd) (zm (Px (yw (zc 4) (zc 5)) (zc 6) qC) zB)) (zm (zX (wd Z.B.kc (yy (jm (N:=["row"]) 1 [] (jo (zc 4)) (λ_ _ _=>⟨qQ 0 (je (by kernel_rfl)),jg,ji (wd Z.B.kc (yT (zc 0)))⟩))))) zB))):zL P w K mg base 2 "count_shares" 3 KU).iso
def UD (Z:Zz K h mg):zU P w K mg base 2 "tell_table" 2 Wa:=by
 obtain⟨f,fd,F,a⟩:=Z.T.Td;exact(yC F (aG Z.X Z.G a) U1 (λ_ _ _ _ _ _=>yf λ_ _=>rfl) λc A outer s H E r x=>zm (zX (yK x (Wf Z).up r (zi (zc 0) zE))) (zB):zU P w K mg base 2 "tell_table" 2 K1).iso
def U4 (Z:Zz K h mg):zU P w K mg base 2 "read_line" 1 w6:=by
 obtain⟨f,fd,F,a⟩:=Z.T.Tw;exact(yC F (aG Z.X Z.G a) JE (λ_ _ _ _ _ _=>jQ λ_=>rfl) λc A outer s H E r x=>zm (jd (yO (yN (yi (wq .str Z.B.qH Z.B.Zq (by rfl) (zc 0))))) (zm (k9 x (Z.C.exc "NoLine" (by decide +kernel)) (zi zD zE) (zp zN)) zB) zB) (zm (Oq 1 2 rfl JE.nd (Gb (zc 0) zD)) (zm (qi 3 JE.nd (G9 (wd Z.B.kc (yy (jm (N:=["part"]) 1 [] (jo (zc 2)) (λ_ _ _=>⟨qQ 0 (je (by kernel_rfl)),jg,ji (qL (Wi Z).up r (zi (zc 0) zE))⟩)))))) (zm (jd (yO (Za (Yr (Xw Vp (J8 qC) (zc 3)) (Ym (yN (yi (qL (Sk Z).up r (zi (zc 1) (zi (wm Z.B.kM (yT (zc 3))) zE))))))))) (zm (k9 x (Z.C.exc "NoLine" (by decide +kernel)) (zi zD zE) (zp zN)) zB) zB) (ka (zm (zX (gi (zi (zc 1) (zi (zc 3) zE)) (zp (zp zN)))) zB))))):zU P w K mg base 2 "read_line" 1 JB).iso
def VU (Z:Zz K h mg):zL P w K mg base 3 "is_wholes_below" 3 Kw:=by
 obtain⟨f,fd,F,a⟩:=Z.T.VR;exact(jq F (aG Z.X Z.G a) VO (λ_ _ _ _ _ _=>Kg λ_ _ _=>rfl) λc A outer s H E r=>zm (zX (gk (qL (T1 Z).up r (zi (zc 0) (zi (zc 1) zE))) (Zc (Qp rfl Z.B.QB (yy (jm (N:=["part","limit"]) 1 [2] (jo (zc 0)) (λ_ _ _=>⟨qQ 0 (je (by kernel_rfl)),jg,ji (Xr QH Vk qC (zc 0) (zc 1))⟩))))))) (zB):zL P w K mg base 3 "is_wholes_below" 3 Kx)
def ZR (Z:Zz K h mg):zU P w K mg base 3 "require_place" 2 ZS:=by
 obtain⟨f,fd,F,a⟩:=Z.T.Uc;exact(yC F (aG Z.X Z.G a) VZ (λ_ _ _ _ _ _=>yf λ_ _=>rfl) λc A outer s H E r x=>zm (jd (yO (yN (yi (qL (V1 Z).up r (zi (zc 1) (zi (wm Z.B.kM (yT (zc 0))) zE)))))) (zm (k9 x (Z.C.exc "NoPlace" (by decide +kernel)) (zi zD zE) (zp zN)) zB) zB) (zB):zU P w K mg base 3 "require_place" 2 ZS)
def K2 (Z:Zz K h mg):zL P w K mg base 3 "search_break" 1 Jr:=by
 obtain⟨f,fd,F,a⟩:=Z.T.Uk;exact(jq F (aG Z.X Z.G a) gS (λ_ _ _ _ _ _=>jQ λ_=>rfl) λc A outer s H E r=>zm (yP PassesOwn.never rfl (Ry (qL (UQ Z).up r (zi (zc 0) zE))) (Rn 1 2 3 rfl gS.nd) (zm (qi 4 gS.nd (qL (Js Z).up r (zi (zc 0) (zi (zc 2) (zi (zc 3) zE))))) (zm (yP PassesOwn.never rfl (gf rfl Z.B.w9 (zc 0)) (yu 5 6 rfl gS.nd) (zm (yP PassesOwn.never rfl (gf rfl Z.B.w9 (zc 6)) (yu 7 8 rfl gS.nd) (zm (jd (Za (GR (j5 (yS r) (zc 8) (zc 1)) (GI (j5 (Zp r) (qL (Js Z).up r (zi (zc 0) (zi (zc 5) (zi (zc 7) zE)))) (zc 4))))) (zm (zX (gi (zi (zc 2) (zi (zc 3) (zi (zc 5) (zi (zc 7) zE)))) (zp (zp (zp (zp zN)))))) zB) zB) zB)) zB)) zB))) (zm (zX gj) zB):zL P w K mg base 3 "search_break" 1 KW).iso
def WM (Z:Zz K h mg):zL P w K mg base 4 "is_table" 1 JH:=by
 obtain⟨f,fd,F,a⟩:=Z.T.Sq;exact(jq F (aG Z.X Z.G a) Ws (λ_ _ _ _ _ _=>jQ λ_=>rfl) λc A outer s H E r=>zm (jd (Za (Yr (yN (yi (wq .tup Z.B.qH Z.B.kc (by rfl) (zc 0)))) (Ym (yN (Ld QH QH qC (wm Z.B.kM (yT (zc 0))) (P1 rfl Z.B.UU.choose_spec)))))) (zm (zX kK) zB) zB) (zm (qi 1 Ws.nd (wm Z.B.kM (yT (zc 0)))) (zm (jd (yN (yi (Qp rfl Z.B.QB (yy (jm (N:=["row","many"]) 1 [1] (jo (zc 0)) (λ_ _ _=>⟨qQ 0 (je (by kernel_rfl)),jg,ji (qL (VU Z).up r (zi (zc 0) (zi (zc 1) (zi (zc 1) zE))))⟩)))))) (zm (zX kK) zB) zB) (zm (zX (gk (qL (RM Z).up r (zi (zc 0) zE)) (Zc (qL (VJ Z).up r (zi (zc 0) zE))))) zB))):zL P w K mg base 4 "is_table" 1 WO)
def VP (Z:Zz K h mg):zU P w K mg base 4 "exchange_places" 2 Kv:=by
 obtain⟨f,fd,F,a⟩:=Z.T.VV;exact(yC F (aG Z.X Z.G a) Ku (λ_ _ _ _ _ _=>yf λ_ _=>rfl) λc A outer s H E r x=>zm (Qm (zc 1) (yu 2 3 rfl Ku.nd)) (zm (yt (yK x (ZR Z).up r (zi (zc 0) (zi (zc 2) zE)))) (zm (yt (yK x (ZR Z).up r (zi (zc 0) (zi (zc 3) zE)))) (zm (jd (yO (j5 (yS r) (zc 2) (zc 3))) (zm (k9 x (Z.C.exc "NoPlace" (by decide +kernel)) (zi zD zE) (zp zN)) zB) zB) (ka (zm (zX (qL (UW Z).up r (zi (zc 0) (zi (qL (TL Z).up r (zi (wm Z.B.kM (yT (zc 0))) (zi (zc 1) zE))) zE)))) zB))))):zU P w K mg base 4 "exchange_places" 2 Kt).iso
def Uu (Z:Zz K h mg):zU P w K mg base 4 "tell_steady" 2 KZ:=by
 obtain⟨f,fd,F,a⟩:=Z.T.UP;exact(yC F (aG Z.X Z.G a) Us (λ_ _ _ _ _ _=>yf λ_ _=>rfl) λc A outer s H E r x=>ka (zm (zX (YD (j5 Vi (qL (K2 Z).up r (zi (zc 0) zE)) gj) zD zD)) zB):zU P w K mg base 4 "tell_steady" 2 KL).iso
def UB (Z:Zz K h mg):zU P w K mg base 4 "tell_break" 2 K8:=by
 obtain⟨f,fd,F,a⟩:=Z.T.Te;exact(yC F (aG Z.X Z.G a) Wk (λ_ _ _ _ _ _=>yf λ_ _=>rfl) λc A outer s H E r x=>ka (zm (qi 2 Wk.nd (qL (K2 Z).up r (zi (zc 0) zE))) (zm (zX (YD (j5 Vi (zc 2) gj) zD (J3 zD (gh (jm (N:=["place"]) 1 [] (jo (zc 2)) (λ_ _ _=>⟨qQ 0 (je (by kernel_rfl)),jg,ji (Gm Z.B.Zq (zc 0))⟩)))))) zB)):zU P w K mg base 4 "tell_break" 2 KR).iso
def V7 (Z:Zz K h mg):zU P w K mg base 5 "require_table" 1 Jm:=by
 obtain⟨f,fd,F,a⟩:=Z.T.Ui;exact(yC F (aG Z.X Z.G a) V3 (λ_ _ _ _ _ _=>jQ λ_=>rfl) λc A outer s H E r x=>zm (jd (yO (yN (yi (qL (WM Z).up r (zi (zc 0) zE))))) (zm (k9 x (Z.C.exc "NoTable" (by decide +kernel)) (zi zD zE) (zp zN)) zB) zB) (zB):zU P w K mg base 5 "require_table" 1 Jm)
def U0 (Z:Zz K h mg):zU P w K mg base 5 "read_table" 1 Wm:=by
 obtain⟨f,fd,F,a⟩:=Z.T.Tb;exact(yC F (aG Z.X Z.G a) K9 (λ_ _ _ _ _ _=>jQ λ_=>rfl) λc A outer s H E r x=>zm (jd (yO (yN (yi (wq .str Z.B.qH Z.B.Zq (by rfl) (zc 0))))) (zm (k9 x (Z.C.exc "NoText" (by decide +kernel)) (zi zD zE) (zp zN)) zB) zB) (zm (qi 1 K9.nd (G9 (wd Z.B.kc (yy (jm (N:=["row"]) 1 [] (jo (Gb (zc 0) zD)) (λ_ _ _=>⟨qQ 0 (je (by kernel_rfl)),jg,ji (wd Z.B.kc (yy (jm (N:=["sign"]) 1 [] (Nw (zc 0)) (λ_ _ _=>⟨qQ 0 (je (by kernel_rfl)),jg,ji (qL (Wi Z).up r (zi (zc 0) zE))⟩))))⟩)))))) (zm (jd (yO (yN (yi (qL (WM Z).up r (zi (zc 1) zE))))) (zm (k9 x (Z.C.exc "NoText" (by decide +kernel)) (zi zD zE) (zp zN)) zB) zB) (ka (zm (zX (zc 1)) zB)))):zU P w K mg base 5 "read_table" 1 KP).iso
def U5 (Z:Zz K h mg):zU P w K mg base 6 "shares_of" 3 JF:=by
 obtain⟨f,fd,F,a⟩:=Z.T.Tv;exact(yC F (aG Z.X Z.G a) U6 (λ_ _ _ _ _ _=>Kg λ_ _ _=>rfl) λc A outer s H E r x=>zm (yt (yK x (V7 Z).up r (zi (zc 0) zE))) (zm (yt (yK x (ZR Z).up r (zi (zc 0) (zi (zc 1) zE)))) (zm (yt (yK x (ZR Z).up r (zi (zc 0) (zi (zc 2) zE)))) (ka (zm (zX (qL (Js Z).up r (zi (zc 0) (zi (zc 1) (zi (zc 2) zE))))) zB)))):zU P w K mg base 6 "shares_of" 3 JF)
def Ul (Z:Zz K h mg):zU P w K mg base 7 "tell_shares" 2 KY:=by
 obtain⟨f,fd,F,a⟩:=Z.T.UK;exact(yC F (aG Z.X Z.G a) KS (λ_ _ _ _ _ _=>yf λ_ _=>rfl) λc A outer s H E r x=>zm (Qm (zc 1) (yu 2 3 rfl KS.nd)) (zm (zX (yK x (Wf Z).up r (zi (yK x (U5 Z).up r (zi (zc 0) (zi (zc 2) (zi (zc 3) zE)))) zE))) zB):zU P w K mg base 7 "tell_shares" 2 KH).iso
def Wt (Z:Zz K h mg):jE P w K mg base 8 "Desk" "say" 2 yI:=by
 obtain⟨f,fd,F,a⟩:=Z.T.Se;exact So (k:=7) Z.B Z.C F a (dk Z.T) ((TU Z).up) ((VP Z).up) ((U4 Z).up) ((U0 Z).up) ((UB Z).up) ((Ul Z).up) ((Uu Z).up) ((UD Z).up)
def SR (Z:Zz K h mg):y7 P w K mg base 8 "Desk" "say" 2 qK:=(Wt Z).m
end
end G
namespace Mi
open PySem L2
def OZ {m:Ev}{A1:Hx}(h:m ρ A=.ok (.ref n) A1)(H:A1[n]? =some (.lst ws)):qw m ρ A=.ok ⟨λA i=>(zM (.ref n) A).map λws=>ws[i]?,ws.length⟩ A1:=by
 unfold qw Y7;rw[h,qc];have e:zM (.ref n) A1=some ws:=by unfold zM;dsimp only;rw[H]
 rw[e]
def Xf (h:A[n]? =some (.lst ws)):((zM (.ref n) A).map λws=>ws[i]?)=some ws[i]?:=by
 have e:zM (.ref n) A=some ws:=by unfold zM;dsimp only;rw[h]
 rw[e];rfl
def Yc {w:W}{s:Nat}(h:A[n]? =some (.lst ws))(H:ws[s]? =some w):qW (.ref n) (.int (s:Int)) A=.ok w A:=by
 unfold qW;have e:zM (.ref n) A=some ws:=by unfold zM;dsimp only;rw[h]
 rw[e];dsimp only;rw[OT H]
def Qu {o u:O}(h:A[n]? =some o):(A++[u])[n]? =some o:=by
 have:=(bx.mp h).1
 rw[ae this];exact h
def wz {u:O}:(A++[u])[A.length]? =some u:=by simp
def GL {xs ys:List W}(h:A[n]? =some (.lst xs))(a:A[k]? =some (.lst ys))(H:xs.length+ys.length<=qm):qz (.ref n) (.ref k) A=.ok (.ref A.length) (A++[.lst (xs++ys)]):=by
 unfold qz;dsimp only;rw[h,a];dsimp only;rw[af H]
def Ext (A a:Hx):Prop:=∃l,a=A++l
def Ext.refl:Ext A A:=⟨[],by simp⟩
def Ext.trans {B C:Hx}(a:Ext A B)(b:Ext B C):Ext A C:=let ⟨l,e⟩:=a;let ⟨k,f⟩:=b;⟨l++k,by rw[f,e,aR]⟩
def Ext.one {o:O}:Ext A (A++[o]):=⟨[o],rfl⟩
def Ext.at {a:Hx}{o:O}(x:Ext A a)(h:A[n]? =some o):a[n]? =some o:=by
 obtain⟨l,rfl⟩:=x
 have:=(bx.mp h).1
 rw[ae this];exact h
def SH {j:qM}{st:W->Ex}{N:Nat}{I:Nat->En->Hx->Prop}
  (H:∀i ρ A,i<N->I i ρ A->∃w ρ1 A1,j.at_ A i=some (some w)/\st w ρ A=.ok (.nx ρ1) A1/\I (i+1) ρ1 A1)(d:∀ρ A,I N ρ A->j.at_ A N=some none):
  ∀(f i:Nat)(ρ:En)(A:Hx),i+f=N->I i ρ A->∃a c,jz j st f i ρ A=.ok (.nx a) c/\I N a c:=by
 intro f
 induction f with
 |zero=>
  intro i ρ A h b
  have:i=N:=by omega
  subst this;exact⟨ρ,A,Ss (d _ _ b),b⟩
 |succ f e=>
  intro i ρ A h b;obtain⟨w,ρ1,A1,l,k,g⟩:=H i ρ A (by omega) b
  rw[PC l k];exact e (i+1) _ _ (by omega) g
section
def G0 {v:Int}(h:A[n]? =some (.lst [.int v])):zQ A (k+1) (.ref n)=some (.list [.int v]):=by
 unfold zQ;have e:zM (.ref n) A=some [.int v]:=by unfold zM;dsimp only;rw[h]
 rw[e];cases k<;>rfl
def R9 {ds:List PyData}(h:A[n]? =some (.lst ws))(hd:jL (zQ A k) ws=some ds):zQ A (k+1) (.ref n)=some (.list ds):=by
 unfold zQ;have e:zM (.ref n) A=some ws:=by unfold zM;dsimp only;rw[h]
 rw[e];dsimp only;rw[hd]
 rfl
def XS {a b:W}{d:PyData}(c:zQ A 8 a=some d)(H:zQ A 8 b=some d)(h:PyData.eqv d d=true):y0 a b A=.ok (.bl false) A:=by
 show kR true a b A=_;unfold kR;rw[c,H];dsimp only;rw[af rfl,h]
 rfl
end
end Mi
namespace G
open PySem L2 Mi
def YF {i j:Int}(h:0<j):kj (.int i) (.int j) A=.ok (.int (i%j)) A:=by
 unfold kj gO;dsimp only;rw[af];unfold QO;exact decide_eq_true h
def Mn {w:W}(H:A[n]? =some (.lst ws))(h:ws[i]? =some w):((zM (.ref n) A).map λws=>ws[i]?)=some (some w):=by
 rw[Xf H,h]
def M4 (H:A[n]? =some (.lst ws))(h:ws.length<=i):((zM (.ref n) A).map λws=>ws[i]?)=some none:=by
 rw[Xf H,List.getElem?_eq_none h]
def Xv {r:R α}{a:α}(h:r=.ok a A):r.nox=.ok a A:=by rw[h];rfl
def JZ {M a:Ex}{A1:Hx}(h:M ρ A=.exc x A1):zl M a ρ A=.exc x A1:=by unfold zl;rw[h,GB]
def Gy {m:Ex}{A1:Hx}(h:m (ws.map some++List.replicate (n-ws.length) none) A=.exc x A1):qU n m ws A=.exc x A1:=by unfold qU;rw[h];rfl
def Sv {a:Ea}{xs ys:List W}{r:Nat}{u e:Option W}(H:A[r]? =some (.lst xs))(h:a [u,e,none,some (.ref r)] A=.ok ys A)(l:xs.length+ys.length<=100):
  zS 3 (zA qz qp (qe a)) [u,e,none,some (.ref r)] A=.ok (.nx [u,e,none,some (.ref (A.length+1))]) (A++[.lst ys]++[.lst (xs++ys)]):=by
 refine(Qh ((yv (yh (i:=3) rfl) (Qe h)).trans (GL (Qu H) wz (by unfold qm;omega)))).trans ?_
 rw[aE,List.length_singleton]
 rfl
def Z8 {a:Ea}{xs ys zs:List W}{L:Hx}{u e:Option W}(c:L[j]? =some (.lst xs))(b:∀m A,a [u,e,none,m] A=.ok ys A)(H:xs.length+ys.length<=100)(h:xs++ys=zs):
  zS 3 (zA qz qp (qe a)) [u,e,none,some (.ref (A.length+j))] (A++L)=.ok (.nx [u,e,none,some (.ref (A.length+(L.length+1)))]) (A++(L++[.lst ys,.lst zs])):=by
 have d:(A++L)[A.length+j]? =some (.lst xs):=by rw[ai (by omega),show A.length+j-A.length=j by omega];exact c
 rw[Sv d (b _ _) H,h,aE,aR,aR,Nat.add_assoc]
 rfl
noncomputable def zI (i a n:Nat):List W:=(List.range' a n).map λk=>W.bl (decide (k=i))
def GX (i:Nat):Hx:=[.lst (zI i 0 3),.lst (zI i 3 3),.lst (zI i 0 6),.lst (zI i 6 3),.lst (zI i 0 9),.lst (zI i 9 3),.lst (zI i 0 12),.lst (zI i 12 3),.lst (zI i 0 15),.lst [.int i]]
noncomputable def yQ (x:Str):Option Nat:=if x = "NoLine" then some 13 else none
def WU (h:yQ x=some i):x = "NoLine" /\ i=13:=by
 unfold yQ at h
 by_cases h0:x = "NoLine"
 ·rw[af h0]at h;cases h;exact⟨h0,rfl⟩
 ·rw[ag h0]at h;cases h
def Pf (a:yQ x=some i)(u:W)(A:Hx):Jn [some u,some (.xc x),none,none] A=.ok (.rt (.ref (A.length+9))) (A++GX i):=by
 have two:=WU a;unfold Jn;have d:∀(m:Option W)(A:Hx),(zh (zZ (qa zO "NoTable") zr) (zh (zZ (qa zO "NotSteady") zr) (zh (zZ (qa zO "NoPlace") zr) zt))) [some u,some (.xc x),none,m] A=.ok (zI i 0 3) A:=λm A=>by
  obtain⟨rfl,rfl⟩:=two;kernel_rfl
 have a1:∀(m:Option W)(A:Hx),(zh (zZ (qa zO "NoKind") zr) (zh (zZ (qa zO "NoMix") zr) (zh (zZ (qa zO "NoNumber") zr) zt))) [some u,some (.xc x),none,m] A=.ok (zI i 3 3) A:=λm A=>by
  obtain⟨rfl,rfl⟩:=two;kernel_rfl
 have a2:∀(m:Option W)(A:Hx),(zh (zZ (qa zO "NoLot") zr) (zh (zZ (qa zO "NoKinds") zr) (zh (zZ (qa zO "NoPaper") zr) zt))) [some u,some (.xc x),none,m] A=.ok (zI i 6 3) A:=λm A=>by
  obtain⟨rfl,rfl⟩:=two;kernel_rfl
 have c:∀(m:Option W)(A:Hx),(zh (zZ (qa zO "NoParting") zr) (zh (zZ (qa zO "NoClosed") zr) (zh (zZ (qa zO "TooMany") zr) zt))) [some u,some (.xc x),none,m] A=.ok (zI i 9 3) A:=λm A=>by
  obtain⟨rfl,rfl⟩:=two;kernel_rfl
 have b:∀(m:Option W)(A:Hx),(zh (zZ (qa zO "NoText") zr) (zh (zZ (qa zO "NoLine") zr) (zh (zZ (qa zO "NoDeed") zr) zt))) [some u,some (.xc x),none,m] A=.ok (zI i 12 3) A:=λm A=>by
  obtain⟨rfl,rfl⟩:=two;kernel_rfl
 have ap:∀n,zI i 0 n++zI i n 3=zI i 0 (n+3):=λn=>by
  unfold zI;rw[<- map_append]
  congr 1
  have:=List.range'_append_1 (s:=0) (m:=n) (n:=3)
  rw[Nat.zero_add]at this;exact this
 have E:zS 3 (qe (zh (zZ (qa zO "NoTable") zr) (zh (zZ (qa zO "NotSteady") zr) (zh (zZ (qa zO "NoPlace") zr) zt)))) [some u,some (.xc x),none,none] A=.ok (.nx [some u,some (.xc x),none,some (.ref (A.length+0))]) (A++[.lst (zI i 0 3)]):=(Qh (Qe (d _ A))).trans rfl;refine(qY E).trans ?_;refine(qY (Z8 (A:=A) (L:=[.lst (zI i 0 3)]) (j:=0) (xs:=zI i 0 3) (ys:=zI i 3 3) (zs:=zI i 0 6) rfl a1 (by simp[zI]) (ap 3))).trans ?_
 refine(qY (Z8 (A:=A) (L:=[.lst (zI i 0 3),.lst (zI i 3 3),.lst (zI i 0 6)]) (j:=2) (xs:=zI i 0 6) (ys:=zI i 6 3) (zs:=zI i 0 9) rfl a2 (by simp[zI]) (ap 6))).trans ?_
 refine(qY (Z8 (A:=A) (L:=[.lst (zI i 0 3),.lst (zI i 3 3),.lst (zI i 0 6),.lst (zI i 6 3),.lst (zI i 0 9)]) (j:=4) (xs:=zI i 0 9) (ys:=zI i 9 3) (zs:=zI i 0 12) rfl c (by simp[zI]) (ap 9))).trans ?_
 refine(qY (Z8 (A:=A) (L:=[.lst (zI i 0 3),.lst (zI i 3 3),.lst (zI i 0 6),.lst (zI i 6 3),.lst (zI i 0 9),.lst (zI i 9 3),.lst (zI i 0 12)]) (j:=6) (xs:=zI i 0 12) (ys:=zI i 12 3) (zs:=zI i 0 15) rfl b (by simp[zI]) (ap 12))).trans ?_
 generalize H:A++([.lst (zI i 0 3),.lst (zI i 3 3),.lst (zI i 0 6),.lst (zI i 6 3),.lst (zI i 0 9),.lst (zI i 9 3),.lst (zI i 0 12)]++[.lst (zI i 12 3),.lst (zI i 0 15)])=B;have l:B.length=A.length+9:=by rw[<- H];simp
 have hm:B[A.length+8]? =some (.lst (zI i 0 15)):=by rw[<- H,ai (by omega),show A.length+8-A.length=8 by omega];rfl
 refine(qY (ρ1:=[some u,some (.xc x),none,some (.ref (A.length+8))]) (A1:=B) ((Zn (A1:=B) (GW (k:=true) ?_)).trans rfl)).trans (J9 (J7 ?_))
 ·obtain⟨rfl,rfl⟩:=two;kernel_rfl
 have e:=SX (cap:=[3]) (mi:=Zr (zq (.int 15))) (j:=kQ 0 15) (ifs:=zA qW zr zx) (me:=jX 0) (ρ:=[some u,some (.xc x),none,some (.ref (A.length+8))]) (A:=B) (N:=15) (item:=λk=>.int (0+(k:Int))) (g:=λk=>.int (0+(k:Int))) (keep:=λk=>decide (k=i)) rfl rfl (by unfold qm;omega) (λk h=>NV h) (Nq (by omega))
  (λk h=>by
   refine(yv (yh (i:=1) (w:=.ref (A.length+8)) rfl) (yh (i:=0) (w:=.int (0+(k:Int))) rfl)).trans ?_;rw[Int.zero_add];refine Yc hm ?_;unfold zI;rw[aK,List.getElem?_range' (by omega)]
   simp) (λk h _=>rfl)
 rw[Gu e,l];have hf:((List.range 15).filter λk=>decide (k=i)).map (λk:Nat=>W.int (0+(k:Int)))=[.int i]:=by
  obtain⟨rfl,rfl⟩:=two;rfl
 rw[hf,<- H,aR]
 rfl
def Ib (h:yQ x=some i):zO.contains x=true:=by
 obtain⟨rfl,_⟩:=WU h;decide +kernel
def RG (t:Lm)(k:Nat)(ws:List W)(A:Hx):R W:=match yc [t] k ws A with
 |.exc x A1=>(match yQ x with
  |some i=>.ok (.ref (A1.length+9)) (A1++GX i)|none=>.bad)
 |_=>.bad
section
variable {PG:yY}{A1 B:Hx}{t:Lm}{q:Str}
def Nx (H:yc [t] k ws A=.exc x A1)(h:yQ x=some i):
  qu 4 (gT PG (yc [t])) [.clo k ws (PG k)] A=.ok (.ref (A1.length+9)) (A1++GX i):=by
 have E:QU 0 PG (yc [t]) [some (.clo k ws (PG k)),some .non,none,none] A=.exc x A1:=by
  unfold QU;refine(af rfl).trans H
 have e:ZC 0 1 2 zO PG (yc [t]) [some (.clo k ws (PG k)),some .non,none,none] A=.ok (.nx [some (.clo k ws (PG k)),some (.xc x),none,none]) A1:=by
  unfold ZC;rw[E];dsimp only;rw[af (Ib h)]
  rfl
 refine Yj ?_;unfold gT;refine(qY (ρ1:=[some (.clo k ws (PG k)),some .non,none,none]) (A1:=A) rfl).trans ?_;exact(qY e).trans (Pf h _ A1)
def XD (H:yc [t] k ws A=.exc x A1)(h:yQ x=some i):RG t k ws A=.ok (.ref (A1.length+9)) (A1++GX i):=by
 unfold RG;rw[H];dsimp only;rw[h]
def MZ (us:List W)(A:Hx):kT PG (RG t) us A=.bad∨qu 4 (gT PG (yc [t])) us A=kT PG (RG t) us A:=by
 by_cases H:kT PG (RG t) us A=.bad
 ·exact .inl H
 right
 unfold kT at H ⊢
 split
 ·rename_i k ws P
  dsimp only at H
  by_cases a:P=PG k
  ·subst a
   rw[af rfl]at H ⊢;cases e:yc [t] k ws A with
   |exc x A1=>
    cases hm:yQ x with
    |none=>exfalso;apply H;unfold RG;rw[e];dsimp only;rw[hm]|some i=>rw[Nx e hm,XD e hm]
   |ok w A1=>exfalso;apply H;unfold RG;rw[e]|bad=>exfalso;apply H;unfold RG;rw[e]
  ·rw[ag a]at H;exact absurd rfl H
 ·rename_i h
  exfalso
  apply H
  split
  ·rename_i k ws P
   exact(h k ws P rfl).elim
  ·rfl
def O9 (a:A[n]? =some (.tab q Pt))(c:wQ t.idx ρ=some ws)(H:t.m (ws.map some) A=.exc x A1)(h:yQ x=some i):gz n q Pt t.idx (RG t 0) ρ A=.ok (.ref (A1.length+9)) (A1++GX i):=by
 unfold gz;rw[a];dsimp only;rw[af ⟨rfl,rfl⟩,c];exact XD H h
def L6 (A:Hx)(i:Nat):(A++GX i)[A.length+9]? =some (.lst [.int (i:Int)]):=by
 rw[ai (by omega),show A.length+9-A.length=9 by omega]
 rfl
def TJ:yQ "NoLine"=some 13:=by decide +kernel
def Ny {m:Ev}{v:Int}(H:v=(i:Int))(h:m ρ A=.ok (.ref (B.length+9)) (B++GX i)):zA y0 m (qe (zh (zq (.int v)) zt)) ρ A=.ok (.bl false) (B++GX i++[.lst [.int v]]):=by
 subst H;exact(yv h (Qe (Qa wk Qk))).trans (XS (d:=.list [.int (i:Int)]) (G0 (k:=7) (Qu (L6 B i))) (G0 (k:=7) wz) (by simp[PyData.eqv,PyData.eqvAll]))
end
noncomputable abbrev FT:W:=.tup [.tup [.int 0]]
noncomputable def X1 (r:a6):W:=.tup (r.map W.int)
def TA:W:=.tup ([[0,1,2,1],[1,0,1,2],[2,1,0,1],[1,2,1,0]].map X1)
def TB:W:=.tup ([[0,1,1,2],[1,0,2,1],[1,2,0,1],[2,1,1,0]].map X1)
def qE (b:Bool):List W:=if b then [FT,TA,TB] else [FT]
noncomputable def jJ (b:Bool):List W:=if b then [.str "0112/1021/1201/2110",.str "yes",.str "none",.str "100/020/001"] else [.str "0",.str "yes",.str "none",.str "1"]
noncomputable abbrev jw:List W:=[.str "table",.str "steady",.str "break",.str "shares 0 0"]
noncomputable abbrev DO:O:=.ins "Desk" [("tables",.ref 3)]
section
variable (a b l1 l2 l3:O)(A:Hx)
def Ih:k8 [.ref 2] [a,b,.ins "Desk" []]=.ok .non [a,b,DO,.lst (qE false)]:=by kernel_rfl
def LF:qK [.ref 2,.str "table 0121/1012/2101/1210"] (a::b::DO::.lst [FT]::A)=.ok (.str "ok") (a::b::DO::.lst [FT,TA]::A):=by kernel_rfl
def Ii:qK [.ref 2,.str "places 0 1"] (a::b::DO::.lst [FT,TA]::A)=.ok (.str "ok") (a::b::DO::.lst [FT,TA,TB]::A):=by kernel_rfl
def LV (s c v4 v v6:Option W):qg 1 [1] (qw qk) (qb 0) qF (qo (qB "Desk" "say" qK zr (zh zx zt))) [s,some (.ref 2),some (.ref 7),c,v4,v,v6] (a::b::DO::.lst (qE false)::l1::l2::l3::.lst jw::A)=.ok (jJ false) (a::b::DO::.lst (qE false)::l1::l2::l3::.lst jw::A):=by kernel_rfl
def IK (s c v4 v v6:Option W):qg 1 [1] (qw qk) (qb 0) qF (qo (qB "Desk" "say" qK zr (zh zx zt))) [s,some (.ref 2),some (.ref 7),c,v4,v,v6] (a::b::DO::.lst (qE true)::l1::l2::l3::.lst jw::A)=.ok (jJ true) (a::b::DO::.lst (qE true)::l1::l2::l3::.lst jw::A):=by kernel_rfl
end
def kU:Hx:=match ZZ [.int 0] [] with
 |.ok _ A=>A|_=>[]
def Zt:List W:=match (kU[16]?:Option O) with
 |some (O.lst xs)=>xs|_=>[]
def NK:kU[16]? =some (.lst Zt):=by kernel_rfl
def Nu (k:Int):WJ [some (.int k),none] []=zl (zY (zA qW zr (zA kj zx (mQ yz (yb zr))))) zy [some (.int k),some (.ref 16)] kU:=by kernel_rfl
def IE (k:Int):∃r:Nat,r<58/\∃w,Zt[r]? =some w/\ZZ [.int k] []=.ok w kU:=by
 have h0:=Int.emod_nonneg k (by decide:(58:Int)≠0)
 have a:=Int.emod_lt_of_pos k (by decide:(0:Int)<58)
 obtain⟨r,H⟩:=Int.eq_ofNat_of_zero_le h0;have l:Zt.length=58:=by kernel_rfl
 have h:r<58:=by omega
 refine⟨r,h,Zt[r]'(by omega),by simp,?_⟩
 refine Yj ((Nu k).trans (J9 (J7 ?_)));have e:mQ yz (yb zr) [some (.int k),some (.ref 16)] kU=.ok (.int 58) kU:=by kernel_rfl
 refine(yv (yh (i:=1) (w:=.ref 16) rfl) ((yv (yh (i:=0) (w:=.int k) rfl) e).trans (YF (by decide)))).trans ?_
 rw[H];exact Yc NK (by simp)
def Jd (w:W):Bool:=w.nr&&(match w with
 |.str x=>!(Txt.startswith x "table ")
 |.clo _ _ _=>false|_=>true)&&(match JB [w] [] with
 |.exc x _=>x == "NoLine"
 |_=>false)
def X4 (w:W):Option O:=match w with
 |.ref n=>kU[n]?|_=>none
def Ve (w:W):Bool:=Jd w || (match X4 w with
 |some (.lst ws)=>qI ws|some (.dct kvs)=>qI (kvs.map (·.2))|_=>false)
def Ow:Zt.all Ve=true:=by kernel_rfl
section
variable {w:W}{B:Hx}{t:Ty}{o:O}
def Xo (H:jK (jY .str zr) (qS w8 zr (zq (.str "table "))) [some (.ref 2),some w,none,none,none,none,none] B=.ok (.bl false) B)(h:w6 [w] B=.exc "NoLine" B):yI [.ref 2,w] B=.exc "NoLine" B:=by
 refine Gy ?_;unfold JL;refine(qY ((Zn (Xv H)).trans gq)).trans (JZ ?_);unfold gD;rw[(Gz (ws:=[w]) (A1:=B) (Qa (yh (i:=1) rfl) Qk)).trans h,GB]
def Zj (h:wU w B=some t)(H:wO t .str=false):jY .str zr [some (.ref 2),some w,none,none,none,none,none] B=.ok (.bl false) B:=by
 unfold jY;rw[show zr [some (.ref 2),some w,none,none,none,none,none] B=.ok w B from yh rfl,qc,h]
 dsimp only;rw[H]
def Np (h:Jd w=true)(B:Hx):yI [.ref 2,w] B=.exc "NoLine" B:=by
 unfold Jd at h;simp only[aq]at h;obtain⟨⟨b,a⟩,H⟩:=h;have r:w6 [w] B=.exc "NoLine" B:=by
  unfold w6 yj;rw[af (show qI [w]=true by unfold qI;rw[b];rfl)]
  split at H
  ·rename_i x A e
   rw[e];dsimp only;rw[au.mp H]
  ·cases H
 refine Xo ?_ r;cases w with
 |str x=>
  have E:jY .str zr [some (.ref 2),some (.str x),none,none,none,none,none] B=.ok (.bl true) B:=rfl;refine(N3 E).trans ?_;show R.ok (W.bl (Txt.startswith x "table ")) B=_;rw[not_eq_true']at a;rw[a]
 |ref _=>cases b|clo _ _ _=>cases a|non=>exact Zd (Zj rfl rfl)|bl _=>exact Zd (Zj rfl rfl)|int _=>exact Zd (Zj rfl rfl)|tup _=>exact Zd (Zj rfl rfl)|xc _=>split at H<;>first|cases H|(rename_i e;cases e)
 |fn _=>split at H<;>first|cases H|(rename_i e;cases e)
def GP (hn:B[n]? =some o)(a:(∃ws,o=.lst ws)∨∃kvs,o=.dct kvs):yI [.ref 2,.ref n] B=.exc "NoLine" B:=by
 obtain⟨t,h,H⟩:∃t,wU (.ref n) B=some t/\wO t .str=false:=by
  unfold wU;dsimp only;rw[hn];rcases a with ⟨_,rfl⟩|⟨_,rfl⟩
  ·exact⟨_,rfl,rfl⟩
  ·exact⟨_,rfl,rfl⟩
 refine Xo (Zd (Zj h H)) ?_;unfold w6 yj;rw[ag (λz=>by cases z)]
 refine Gy ?_;unfold Wu;have e:jY .str zx [some (.ref n),none,none,none] B=.ok (.bl false) B:=by
  unfold jY;rw[show zx [some (.ref n),none,none,none] B=.ok (.ref n) B from yh rfl,qc,h]
  dsimp only;rw[H]
 exact JZ ((XY (Xv (GW (k:=false) e))).trans (JZ rfl))
def L4 (k:Int)(B:Hx):∃w b,wc [.int k] B=.ok w b/\Ext B b/\yI [.ref 2,w] b=.exc "NoLine" b:=by
 obtain⟨r,a,w,hw,e⟩:=IE k;have H:=bA.mp Ow w (a3 hw);unfold Ve at H;rw[or_eq_true]at H;unfold wc iso;rw[af (show qI [W.int k]=true from rfl),e]
 rcases H with h|h
 ·have hn:w.nr=true:=by
   unfold Jd at h;simp only[aq]at h;exact h.1.1
  refine⟨w,B,?_,.refl,Np h B⟩;cases w with
  |ref _=>cases hn|_=>first|rfl|exact af hn
 ·cases w with
  |ref n=>
   unfold X4 at h;dsimp only at h ⊢;cases E:(kU[n]?:Option O) with
   |none=>rw[E]at h;cases h|some o=>cases o with
    |lst ws=>
     rw[E]at h;dsimp only at h ⊢;rw[af h];exact⟨_,_,rfl,Ext.one,GP wz (.inl ⟨_,rfl⟩)⟩
    |dct kvs=>
     rw[E]at h;dsimp only at h ⊢;rw[af h];exact⟨_,_,rfl,Ext.one,GP wz (.inr ⟨_,rfl⟩)⟩
    |_=>rw[E]at h;cases h
  |_=>cases h
end
abbrev T0:Lm:=wj yI
structure z9 (ns:a6)(Pt:Addr)(g:Bool)(B:Hx):Prop where
 ex:∃l1 l2 l3 A,B=.ro (ns.map W.int)::.tab qR Pt::DO::.lst (qE g)::l1::l2::l3::.lst jw::.lst (jJ g)::A
abbrev BT (Pt:Addr):Ex:=zl (zS 6 (z0 wc (zh (zA kj gH (zq (.int 2147483647))) zt))) (zl (qv (zA y0 (gz 1 qR Pt (wj yI).idx (RG (wj yI) 0)) (qe (zh (zq (.int 13)) zt))) wX zy) (zl (qv (zA y0 (jy (qg 1 [1] (qw qk) (qb 0) qF (qo (qB "Desk" "say" qK zr (zh zx zt))))) qp) wX zy) zy))
section
variable {ns:a6}{g:Bool}{B C:Hx}{x y:Option W}
def z9.ext (h:z9 ns Pt g B)(e:Ext B C):z9 ns Pt g C:=by
 obtain⟨l1,l2,l3,A,rfl⟩:=h.ex;obtain⟨l,rfl⟩:=e;exact⟨l1,l2,l3,A++l,rfl⟩
def IS (h:z9 ns Pt g B)(s a v4 v v6:Option W):qg 1 [1] (qw qk) (qb 0) qF (qo (qB "Desk" "say" qK zr (zh zx zt))) [s,some (.ref 2),some (.ref 7),a,v4,v,v6] B=.ok (jJ g) B:=by
 obtain⟨l1,l2,l3,A,rfl⟩:=h.ex;cases g with
 |false=>exact LV _ _ l1 l2 l3 _ s a v4 v v6|true=>exact IK _ _ l1 l2 l3 _ s a v4 v v6
def Vd (g:Bool):List PyData:=match jL (zQ [] 7) (jJ g) with
 |some ds=>ds|none=>[]
def Xp (h:A[n]? =some (.lst (jJ g))):zQ A 8 (.ref n)=some (.list (Vd g)):=R9 h (by cases g<;>kernel_rfl)
def MW (h:z9 ns Pt g B)(c:Int):∃Y C,BT Pt [some (.ref 0),some (.ref 2),some (.ref 7),some (.ref 8),x,some (.int c),y] B=.ok (.nx [some (.ref 0),some (.ref 2),some (.ref 7),some (.ref 8),x,some (.int c),Y]) C/\z9 ns Pt g C/\Ext B C:=by
 obtain⟨w,b,l,e,k⟩:=L4 (c%2147483647) B;have a:=h.ext e;have s1:=Qh (i:=6) (ρ:=[some (.ref 0),some (.ref 2),some (.ref 7),some (.ref 8),x,some (.int c),y]) ((Gz (Qa ((yv (A:=B) (yh (i:=5) (w:=.int c) rfl) wk).trans (YF (by decide))) Qk)).trans l)
 have em:T0.m ([.ref 2,w].map some) b=.exc "NoLine" b:=by
  obtain⟨l1,l2,l3,A,rfl⟩:=a.ex;exact k
 have f:b[1]? =some (.tab qR Pt):=by obtain⟨l1,l2,l3,A,rfl⟩:=a.ex;rfl
 have E:=O9 (ρ:=[some (.ref 0),some (.ref 2),some (.ref 7),some (.ref 8),x,some (.int c),some w]) (t:=T0) f (ws:=[.ref 2,w]) rfl em TJ;have f1:=Ny (i:=13) (v:=13) rfl E;have X:Ext b (b++GX 13++[.lst [.int 13]]):=Ext.trans ⟨GX 13,rfl⟩ Ext.one;have H:=a.ext X;generalize b++GX 13++[.lst [.int 13]]=n at f1 X H;have j:=Gu (IS H (some (.ref 0)) (some (.ref 8)) x (some (.int c)) (some w));have hT:n[8]? =some (.lst (jJ g)):=by obtain⟨l1,l2,l3,A,rfl⟩:=H.ex;rfl
 have f2:=(yv j (yh (i:=3) (w:=.ref 8) rfl)).trans (XS (d:=.list (Vd g)) (Xp wz) (Xp (Qu hT)) (by cases g<;>kernel_rfl))
 refine⟨some w,_,?_,H.ext (Ext.one (o:=.lst (jJ g))),(e.trans X).trans Ext.one⟩;refine(qY s1).trans ?_;refine(qY ((Zn f1).trans gq)).trans ?_;exact(qY ((Zn f2).trans gq)).trans gq
end
def YX (Pt:Addr):Fn:=qu 7 (YV k8 qK wc yI RG Pt)
def Ng (ns:a6)(l u:bg):∃ms:a6,ZF (ns.map W.int) l u=ms.map W.int/\ms.length<=ns.length:=by
 unfold ZF;rw[<- List.map_drop,<- List.map_take];refine⟨_,rfl,?_⟩;rw[length_take,List.length_drop];omega
section
variable {ns:a6}
def Gw {pl pu:Po}{l u:bg}{v:Int}(b:ns.length<=63)(h0:ρ[0]? =some (some (.ref 0)))(h:A[0]? =some (.ro (ns.map W.int)))(a:∀A,pl ρ A=.ok l A)(H:∀A,pu ρ A=.ok u A):
  ∃(ms:a6) (l1 l2:O),ms.length<=63/\zA qz (wF zx pl pu) (qe (zh (zq (.int v)) zt)) ρ A=.ok (.ref (A.length+2)) (A++[l1,l2,.lst ((ms++[v]).map W.int)]):=by
 obtain⟨ms,hm,k⟩:=Ng ns l u;have e:wF zx pl pu ρ A=.ok (.ref A.length) (A++[.lst (ms.map W.int)]):=by
  unfold wF;rw[show zx ρ A=.ok (.ref 0) A from yh h0,qc,a,qc,H,qc]
  dsimp only;rw[h];dsimp only;rw[hm]
 refine⟨ms,.lst (ms.map W.int),.lst [.int v],by omega,?_⟩
 refine(yv e (Qe (Qa wk Qk))).trans ((GL (Qu wz) wz (by rw[aL];show ms.length+1<=qm;unfold qm;omega)).trans ?_)
 rw[aE,aE,map_append,aR,aR]
 rfl
end
section
variable (a b l1 l2 l3:O)(v5 v6:Option W)
def LG:jB (qw qk) (qb 4) (zl (qV (kN yM qp (qB "Desk" "say" qK zr (zh jP zt)))) zy) [some (.ref 0),some (.ref 2),some (.ref 7),some (.ref 8),none,v5,v6] [a,b,DO,.lst (qE false),l1,l2,l3,.lst jw,.lst []]=.ok (.nx [some (.ref 0),some (.ref 2),some (.ref 7),some (.ref 8),some (.str "shares 0 0"),v5,v6]) [a,b,DO,.lst (qE false),l1,l2,l3,.lst jw,.lst (jJ false)]:=by kernel_rfl
def LX:jB (qw qk) (qb 4) (zl (qV (kN yM qp (qB "Desk" "say" qK zr (zh jP zt)))) zy) [some (.ref 0),some (.ref 2),some (.ref 7),some (.ref 8),none,v5,v6] [a,b,DO,.lst (qE true),l1,l2,l3,.lst jw,.lst []]=.ok (.nx [some (.ref 0),some (.ref 2),some (.ref 7),some (.ref 8),some (.str "shares 0 0"),v5,v6]) [a,b,DO,.lst (qE true),l1,l2,l3,.lst jw,.lst (jJ true)]:=by kernel_rfl
def two_F (ρ:En)(h:ρ[1]? =some (some (.ref 2))):zl (qV (qB "Desk" "say" qK zr (zh (zq (.str "table 0121/1012/2101/1210")) zt))) (zl (qV (qB "Desk" "say" qK zr (zh (zq (.str "places 0 1")) zt))) zy) ρ [a,b,DO,.lst (qE false),l1,l2,l3]=.ok (.nx ρ) [a,b,DO,.lst (qE true),l1,l2,l3]:=by
 have me:∀(x:Str)(t us:List W),qK [.ref 2,.str x] [a,b,DO,.lst t,l1,l2,l3]=.ok (.str "ok") [a,b,DO,.lst us,l1,l2,l3]->qB "Desk" "say" qK zr (zh (zq (.str x)) zt) ρ [a,b,DO,.lst t,l1,l2,l3]=.ok (.str "ok") [a,b,DO,.lst us,l1,l2,l3]:=λx t us e=>by
  unfold qB;rw[show zr ρ [a,b,DO,.lst t,l1,l2,l3]=.ok (.ref 2) [a,b,DO,.lst t,l1,l2,l3] from yh h,qc]
  exact e
 exact(qY (XC (me _ _ _ (LF a b [l1,l2,l3])))).trans ((qY (XC (me _ _ _ (Ii a b [l1,l2,l3])))).trans gq)
end
def HY (i j:Int)(A:Hx):ye (.int i) (.int j) A=.ok (.bl (decide (i=j))) A:=by
 show R.ok (W.bl (PyData.eqv (.int i) (.int j))) A=_;simp[PyData.eqv]
 rfl
def PY:Xl qR YX:=λns d Pt=>by
 have U:zS 1 (YN "Desk" k8) [some (.ref 0),none,none,none,none,none,none] [.ro (ns.map W.int),.tab qR Pt]=.ok (.nx [some (.ref 0),some (.ref 2),none,none,none,none,none]) [.ro (ns.map W.int),.tab qR Pt,DO,.lst (qE false)]:=by
  refine(Qh (w:=.ref 2) (A1:=[.ro (ns.map W.int),.tab qR Pt,DO,.lst (qE false)]) ?_).trans rfl;show(k8 [.ref 2] [.ro (ns.map W.int),.tab qR Pt,.ins "Desk" []]).bind _=_;rw[Ih]
  rfl
 obtain⟨ms,l1,l2,_,T⟩:=Gw (ρ:=[some (.ref 0),some (.ref 2),none,none,none,none,none]) (A:=[.ro (ns.map W.int),.tab qR Pt,DO,.lst (qE false)]) (pl:=Q2) (pu:=kS j0) (l:=none) (u:=some 1) (v:=0) d rfl rfl (λ_=>rfl) (λ_=>rfl);obtain⟨x0,h0⟩:∃x0:Int,(ms++[0])[0]? =some x0:=⟨_,aM (by simp)⟩
 have S:=(yv T (wk (w:=.int 0))).trans (Yc (s:=0) (w:=.int x0) (n:=6) rfl (by rw[aK,h0];rfl))
 have Q:=(yv S (wk (w:=.int 2))).trans (YF (by decide))
 have E:=(yv Q (wk (w:=.int 1))).trans (HY _ _ _);generalize O.lst ((ms++[0]).map W.int)=l3 at E;obtain⟨g,P⟩:∃g:Bool,qv (zA ye (zA kj (zA qW (zA qz (wF zx Q2 (kS j0)) (qe (zh y8 zt))) y8) Vz) j0) (zl (qV (qB "Desk" "say" qK zr (zh (zq (.str "table 0121/1012/2101/1210")) zt))) (zl (qV (qB "Desk" "say" qK zr (zh (zq (.str "places 0 1")) zt))) zy)) zy [some (.ref 0),some (.ref 2),none,none,none,none,none] [.ro (ns.map W.int),.tab qR Pt,DO,.lst (qE false)]=.ok (.nx [some (.ref 0),some (.ref 2),none,none,none,none,none]) [.ro (ns.map W.int),.tab qR Pt,DO,.lst (qE g),l1,l2,l3]:=by
  by_cases c:x0%2=1
  ·rw[decide_eq_true c]at E
   exact⟨true,(XY E).trans (two_F _ _ l1 l2 l3 _ rfl)⟩
  ·rw[aD c]at E
   exact⟨false,(Zn E).trans gq⟩
 have M:jB (qw qk) (qb 4) (zl (qV (kN yM qp (qB "Desk" "say" qK zr (zh jP zt)))) zy) [some (.ref 0),some (.ref 2),some (.ref 7),some (.ref 8),none,none,none] [.ro (ns.map W.int),.tab qR Pt,DO,.lst (qE g),l1,l2,l3,.lst jw,.lst []]=.ok (.nx [some (.ref 0),some (.ref 2),some (.ref 7),some (.ref 8),some (.str "shares 0 0"),none,none]) [.ro (ns.map W.int),.tab qR Pt,DO,.lst (qE g),l1,l2,l3,.lst jw,.lst (jJ g)]:=by
  cases g with
  |false=>exact LG _ _ l1 l2 l3 _ _|true=>exact LX _ _ l1 l2 l3 _ _
 obtain⟨k,a,L,Z,b⟩:=Gw (ρ:=[some (.ref 0),some (.ref 2),some (.ref 7),some (.ref 8),some (.str "shares 0 0"),none,none]) (A:=[.ro (ns.map W.int),.tab qR Pt,DO,.lst (qE g),l1,l2,l3,.lst jw,.lst (jJ g)]) (pl:=kS j0) (pu:=kS (zq (.int 31))) (l:=some 1) (u:=some 31) (v:=5) d rfl rfl (λ_=>rfl) (λ_=>rfl);have o:z9 ns Pt g ([.ro (ns.map W.int),.tab qR Pt,DO,.lst (qE g),l1,l2,l3,.lst jw,.lst (jJ g)]++[a,L,.lst ((k++[5]).map W.int)]):=⟨l1,l2,l3,[a,L,.lst ((k++[5]).map W.int)],rfl⟩;have h:([.ro (ns.map W.int),.tab qR Pt,DO,.lst (qE g),l1,l2,l3,.lst jw,.lst (jJ g)]++[a,L,.lst ((k++[5]).map W.int)])[11]? =some (.lst ((k++[5]).map W.int)):=rfl;generalize [.ro (ns.map W.int),.tab qR Pt,DO,.lst (qE g),l1,l2,l3,.lst jw,.lst (jJ g)]++[a,L,.lst ((k++[5]).map W.int)]=p at b o h;generalize k++[5]=us at b h;obtain⟨q,B,K,_⟩:=SH (j:=⟨λA i=>(zM (.ref 11) A).map λws=>ws[i]?,(us.map W.int).length⟩) (st:=turn (qb 5) (BT Pt)) (N:=(us.map W.int).length) (I:=λ_ ρ C=>(z9 ns Pt g C/\Ext p C)/\∃y z,ρ=[some (.ref 0),some (.ref 2),some (.ref 7),some (.ref 8),some (.str "shares 0 0"),y,z])
  (λi ρ C f ⟨⟨J,X⟩,y,z,H⟩=>by
   subst H;rw[aL]at f;obtain⟨Y,D,e,t,r⟩:=MW (x:=some (.str "shares 0 0")) (y:=z) J us[i];exact⟨.int us[i],_,D,Mn (X.at h) (by rw[aK,aM f];rfl),(Oy rfl).trans e,⟨t,X.trans r⟩,_,_,rfl⟩)
  (λρ C ⟨⟨_,X⟩,_⟩=>M4 (X.at h) (ak _)) (us.map W.int).length 0 [some (.ref 0),some (.ref 2),some (.ref 7),some (.ref 8),some (.str "shares 0 0"),none,none] p (by omega) ⟨⟨o,.refl⟩,_,_,rfl⟩
 refine⟨B,Yj ?_⟩;unfold YV;refine(qY U).trans ((qY P).trans ?_);refine(qY (ρ1:=[some (.ref 0),some (.ref 2),some (.ref 7),none,none,none,none]) (A1:=[.ro (ns.map W.int),.tab qR Pt,DO,.lst (qE g),l1,l2,l3,.lst jw]) rfl).trans ?_;refine(qY (ρ1:=[some (.ref 0),some (.ref 2),some (.ref 7),some (.ref 8),none,none,none]) (A1:=[.ro (ns.map W.int),.tab qR Pt,DO,.lst (qE g),l1,l2,l3,.lst jw,.lst []]) rfl).trans ?_;refine(qY M).trans ?_;exact(qY ((OD (OZ b h)).trans K)).trans (J9 (J7 wk))
section
variable {K:Frag}
def Uj (Z:Zz K h mg){PG:yY}{lam:Nat->Fn}(H:∀k,wG P w K mg base 9 (PG k) (lam k)):zL P w K mg base 10 "_law_refused" 1 ((qu 4 (gT PG lam))):=by
 obtain⟨f,fd,F,a⟩:=Z.T.Ur;exact(Ut (k:=9) Z.B Z.C Z.T.Ij F (aG Z.X Z.G a) (ak _) H)
def Md (Z:Zz K h mg)(F:jj K "law" "law" Zk f fd)(hn:nsIn K mainGlobals "law"=some (some (.ref f)))(H:tabIn K "law"=some (c,Pt))(a:BMain mg base)(C:CodeHd base c Pt):qA P w K mg base jS 11 f fd ["_law_script"] (yn K 1 (YX Pt)):=
 o_law (ki:=1) (k:=10) (j:=8) (kk:=10) Z.B F hn H a C (dk Z.T) (by decide) (Uh Z).up (SR Z).up (Sy Z).up (by decide) (λbase=>(Wt Z).up)  (λt base PG L=>(Uj Z L).imp λus A _=>MZ us A)
def all_mk {l:PySem.W.OpenLaw}{i:Addr}(X:K.In h)(Gl:h.Ns mainGlobals mg)(b:mg "law"=some (.ref i))(T:Tx K)(H:∃c,tabIn K "law"=some (c,Pt)/\codeHdIn K c Pt=true):
  ∃fd:FuncData,(∀(s:Shared)(v:Value),BindsTo s fd ⟨[v],[]⟩ [("_law_script",v)])/\∀base:Heap,K.In base->base.Ns mainGlobals mg->BMain mg base->qA l.prog w K mg base jS 11 i fd ["_law_script"] (yn K 1 (YX Pt)):=by
 obtain⟨c,H,d⟩:=H;obtain⟨f,fd,F,a⟩:=T.Ie;have e:=b.symm.trans (aG X Gl a);cases e;obtain⟨n,j,kV,doc,pm,an,C,ct,o,rfl,lk,g⟩:=id F.ex;exact⟨_,λs v=>.of_eq rfl,λbase k nb B=>Md (zz X Gl T) F a H B (codeHd_of_K k d)⟩
end
end G
namespace PySem.W.Fast
def tw3253293625640648916:Nat:=0
def tw14234252877057579466:Nat:=0
def tw12159009925938934363:Nat:=0
def tw11872868513584629606:Nat:=0
def tw9153202737669109660:Nat:=0
def tw14690979688195398783:Nat:=0
def tw8585616473269458738:Nat:=0
def tw16719335196084718232:Nat:=0
def tw15371983885229116149:Nat:=0
def tw7996081904767350563:Nat:=0
def tw9162585911704554537:Nat:=0
def tw8677858696730995384:Nat:=0
def tw12406697286292969603:Nat:=0
def tw5653818905603561295:Nat:=0
def tw13300639071655767525:Nat:=0
def tw17928174318467008590:Nat:=0
def tw11137139617389349321:Nat:=0
def tw13831641485962585605:Nat:=0
def tw10207858956613416740:Nat:=0
def tw9731917045100898643:Nat:=0
def tw14091982828649315201:Nat:=0
def tw756482508816396896:Nat:=0
def tw14576615815534624116:Nat:=0
def tw12194654592481244803:Nat:=0
def tw5855785958356184302:Nat:=0
def tw10286787050693987120:Nat:=0
def tw1667077320390621473:Nat:=0
def tw710917472694980999:Nat:=0
def tw17759881827267604954:Nat:=0
def tw14602695849482063280:Nat:=0
def tw433097781236111977:Nat:=0
def tw16166140017483227314:Nat:=0
def tw8901565087314103629:Nat:=0
def tw7888239061545332679:Nat:=0
def tw5960471757353767234:Nat:=0
def tw9567442087112013904:Nat:=0
def tw3272320417841027205:Nat:=0
def tw8373677893289776112:Nat:=0
def tw4714355910890043134:Nat:=0
def tw10945584114712237354:Nat:=0
def tw1453934386533436215:Nat:=0
def tw11839485592237879615:Nat:=0
def tw18414037506993990130:Nat:=0
def tw1324417357292102087:Nat:=0
def tw2332427553622936633:Nat:=0
def tw8917676735528031979:Nat:=0
def tw11890709471507885360:Nat:=0
def tw13372219127065379011:Nat:=0
def tw3634680673150560205:Nat:=0
def tw14680496794089627721:Nat:=0
end PySem.W.Fast
open PySem PySem.W PyProof.Rows
set_option maxRecDepth 100000 in
set_option maxHeartbeats 0 in
theorem PySem.Challenge.cw_nearkinds_k93_lines_that_are_none_holds : PySem.Challenge.rw_nearkinds_k93_lines_that_are_none.Holds := by
 w_on;o_law;k_head;(case hw=>w_witness2)
 k_fill
 refine' Mi.Iy (y := "law") (l:=PySem.Challenge.rw_nearkinds_k93_lines_that_are_none) (k:=11) (x := "_law_script") G.PY rfl rfl ⟨rfl,by decide,by decide,rfl⟩ (λw h Y=>PySem.W.km_in_of Y) (λw h Y=>PySem.W.km_tabs_of Y _ ?m1) ?ht ?hKP ?F
 case m1=>exact aA ..
 case ht=>exact λp=>by kernel_rfl
 case hKP=>exact λp=>by kernel_rfl
 case F=>
  intro w mg fa h KX Gl hmg ht;have T:G.Tx (L2.Vy KX):=by
   dsimp only [L2.Vy]
   apply G.Tx.mk<;>first | (refine' Mi.LP ?a ?l ?c ?k;(case a=>k_is);(case l=>k_is);(case c=>k_is);(case k=>k_is)) | (refine' Mi.IJ ?a;(case a=>k_is)) | (refine' Mi.M0 ?a;(case a=>k_is)) | (refine' Mi.Ik ?z ?a ?i ?l ?c ?k;(case z=>k_is);(case a=>k_is);(case i=>k_is);(case l=>k_is);(case c=>k_is);(case k=>k_is)) | (refine' Mi.Mw ?z ?l ?e ?l2 ?e2;(case z=>k_is);(case l=>k_is);(case e=>exact rfl);(case l2=>k_is);(case e2=>exact rfl)) | k_is|kernel_rfl
  exact G.all_mk KX Gl hmg T ht
