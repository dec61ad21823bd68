import PyProof.Rows.All
import Wide.All
import OpenK.AllK
import Lean
import PySem.Challenge.RW_nearkinds_k31_how_often_and_worths
set_option compiler.extract_closed false
set_option tactic.hygienic false
set_option genSizeOf false
set_option genInjectivity false
noncomputable section
open PySem.W (Frag)
open List (all_append all_map any_cons any_eq_true drop_length ext_getElem? find?_cons flatMap_append flatMap_cons flatMap_nil forIn_cons forIn_nil getElem_inj getElem_map getElem_range map_nil mem_cons mem_filter mem_map mem_of_getElem? nodup_range of_mem_zip pairwise_map range'_succ range_eq_range' set_append_right sum_append sum_cons take_append_drop take_length take_zero)
open Nat (add_comm le_add_right lt_trans mul_comm mul_le_mul ne_of_gt sub_self succ_mul zero_add zero_le)
open Int (emod_nonneg mul_nonneg zero_mul)
open Bool (false_eq_true not_eq_true')
open Option (getD_none isSome_some)
open Array (length_toList)
open PySem.W (CodeHd callWith_K cellsFrom_some codeHdIn codeHd_of_K codeIn envX fnOf hideAll hideAll_none hideAll_size instObj keepIn kitAny kitOne kitx_bool kitx_dict kitx_float kitx_int kitx_list kitx_none kitx_str kitx_tuple kla_callFunE kla_codeExpr kla_fn kla_obj km_tabs_of lookIn methodObj mg_of nsIn of_hideAll plainGet tabIn tabObj)
open PySem.F (args_tuple_add_2 entry_tuple_add slot_tuple_add)
abbrev aa:=@List.getD_eq_getElem?_getD
abbrev ae:=@List.getElem?_eq_getElem
abbrev af:=@PySem.Heap.get?_push_of_some
abbrev ag:=@List.length_map
abbrev ah:=@List.getElem?_append_left
abbrev ai:=@if_pos
abbrev aj:=@if_neg
abbrev ak:=@Bool.and_eq_true
abbrev ao:=@decide_eq_true_iff
abbrev aq:=@Nat.le_refl
abbrev ar:=@List.getElem?_set_self
abbrev au:=@List.getElem?_append_right
abbrev av:=@List.getElem?_set_ne
abbrev aw:=@List.length_append
abbrev ax:=@List.getElem?_map
abbrev ay:=@decide_eq_true
abbrev az:=@List.mem_cons_of_mem
abbrev aA:=@Int.toNat_natCast
abbrev aB:=@List.size_toArray
abbrev aC:=@PySem.Heap.get?_push_size
abbrev aD:=@List.getElem?_eq_none
abbrev aE:=@Option.some.inj
abbrev aF:=@List.mem_cons_self
abbrev aG:=@decide_eq_false
abbrev aH:=@Bool.false_ne_true
abbrev aI:=@List.length_range
abbrev aJ:=@List.getElem_mem
abbrev aK:=@Nat.lt_of_lt_of_le
abbrev aL:=@beq_iff_eq
abbrev aM:=@PySem.Heap.lt_size
abbrev aN:=@List.map_append
abbrev aO:=@Nat.ne_of_lt
abbrev aP:=@List.append_assoc
abbrev aQ:=@List.mem_append_right
abbrev aR:=@List.map_cons
abbrev aS:=@Int.eq_ofNat_of_zero_le
abbrev aT:=@Nat.lt_irrefl
abbrev aU:=@List.getElem?_range
abbrev aV:=@PySem.W.mg_none_of
abbrev aW:=@List.map_map
abbrev aX:=@List.length_singleton
abbrev aY:=@List.all_eq_true
abbrev aZ:=@Nat.le_trans
abbrev a3:=@Bool.or_eq_true
abbrev a4:=@List.getElem_of_mem
abbrev a5:=@List.append_nil
abbrev a6:=@List.length_cons
abbrev a7:=@List.flatten_cons
abbrev a8:=@List.ext_getElem
abbrev a9:=@List.replicate_succ
abbrev ba:=@List.filterMap_cons
abbrev bb:=@List.getElem?_replicate
abbrev bc:=@Nat.lt_succ_of_lt
abbrev bf:=@List.range_succ
abbrev bg:=@List.not_mem_nil
abbrev bh:=@List.map_congr_left
abbrev bj:=@PySem.Heap.size_push
abbrev bo:=@List.length_replicate
abbrev bq:=@PySem.Heap.get?_update_other
abbrev br:=@List.mem_of_mem_drop
abbrev bt:=@List.mem_append_left
abbrev bw:=@List.length_set
abbrev bx:=@Nat.lt_succ_self
abbrev bz:=@List.take_of_length_le
abbrev bA:=@List.length_reverse
abbrev bB:=@PySem.W.kia_one
abbrev bC:=@List.lookup_cons
abbrev bD:=@List.length_take
abbrev bE:=@List.length_drop
abbrev bF:=@List.countP_cons
abbrev bG:=@PySem.W.hideAll_get
abbrev bH:=@List.reverse_cons
abbrev bI:=@Nat.le_of_lt
abbrev bJ:=@Int.emod_lt_of_pos
abbrev bK:=@List.nil_append
abbrev bL:=@List.all_cons
abbrev bM:=@beq_self_eq_true
abbrev bN:=List (List Int)
abbrev bP:=List Int
abbrev bQ:=List PySem.Value
abbrev bR:=List PySem.Addr
abbrev bS:=List (PySem.Addr×PySem.Obj)
abbrev bT:=List Nat
abbrev bU:=List PySem.Str
abbrev bV:=PySem.Value->PySem.Shared->Prop
abbrev bW:=List PySem.Expr
abbrev bX:=Option Int
abbrev bY:=PySem.Str->Option PySem.Value
abbrev bZ:=List PySem.Env
abbrev b0:=List (PySem.Str×PySem.Addr)
abbrev b8:=List PySem.Keyword
abbrev b9:=Option PySem.Addr
abbrev cb:=List PySem.Stmt
abbrev cf:=@PySem.wpAny_bind
abbrev cg:=@PySem.wpAny_pure
abbrev cm:=@List.getElem?_eq_some_iff
abbrev cn:=@List.mem_cons
abbrev cw:=@List.all_eq_true
abbrev cj:=@List.mem_range
abbrev cu:=@List.mem_map
abbrev cx:=@List.mem_singleton
abbrev cy:=@List.mem_append
set_option Elab.async false
set_option linter.all false
set_option maxRecDepth 1000000
set_option maxHeartbeats 4000000
variable {XP:(PySem.Str->Option PySem.Value)->PySem.Heap->Prop}{D Pt a b c f:PySem.Addr}{pd:Array (Option PySem.Value)}{items:Array PySem.Value}{op:PySem.CmpOp}{env:PySem.Env}{e oS o7 tg:PySem.Expr}{fd:PySem.FuncData}{base h h':PySem.Heap}{o5:List (PySem.Addr×PySem.Obj)}{t:bN}{oW:List (PySem.Str×PySem.Addr)}{fp φ:List PySem.Addr}{gens gs:List PySem.Comprehension}{oY ifs:List PySem.Expr}{ns:bP}{cap:bT}{body:List PySem.Stmt}{N:List PySem.Str}{o9 us:List PySem.Value}{M:PySem.Model}{i kk n t':Nat}{oR o8 p o6 oQ:PySem.Pos}{P:PySem.Program}{sc scope:PySem.Scope}{s':PySem.Shared}{qual x:PySem.Str}{mg:PySem.Str->Option PySem.Value}{α:Type}{u:PySem.Value}{E Q:PySem.Value->PySem.Shared->Prop}
namespace L2
open PySem PySem.Spec PyProof.Rows
abbrev Key:=Sum Int Str
noncomputable def JQ:Key->Value->Bool
 |.inl k,v=>Value.isInt k v|.inr x,v=>Value.isStrOf x v
noncomputable def cz (w:World):Key->Int
 |.inl k=>hashInt k|.inr x=>hashStr w x
theorem ZX:∀{k:Key}{v:Value},JQ k v=true->(∃i t,k=Sum.inl i/\v=Value.int i t)∨(∃x t,k=Sum.inr x/\v=Value.str x t)
 |.inl i,v,h=>by obtain⟨t,e⟩:=Value.isInt_shape (k:=i) (v:=v) h;exact .inl ⟨i,t,rfl,e⟩
 |.inr x,v,h=>by obtain⟨t,e⟩:=Value.isStrOf_shape (x:=x) (v:=v) h;exact .inr ⟨x,t,rfl,e⟩
def Ck (i:Int)(t:Tok):JQ (.inl i) (.int i t)=true:=by simp[JQ,Value.isInt]
def DY (x:Str)(t:Tok):JQ (.inr x) (.str x t)=true:=by simp[JQ,Value.isStrOf]
def cA (a b:Int):decide ((Sum.inl a:Key)=Sum.inl b)=(a==b):=by
 by_cases e:a=b
 ·subst e;simp
 ·have h:¬(Sum.inl a:Key)=Sum.inl b:=λq=>e (Sum.inl.inj q)
  rw[aG h];exact(beq_eq_false_iff_ne.mpr e).symm
def cB (a b:Str):decide ((Sum.inr a:Key)=Sum.inr b)=decide (a=b):=by
 by_cases e:a=b
 ·subst e;simp
 ·have h:¬(Sum.inr a:Key)=Sum.inr b:=λq=>e (Sum.inr.inj q)
  rw[aG h,aG e]
def cC (a:Int)(b:Str):decide ((Sum.inl a:Key)=Sum.inr b)=false:=aG (λq=>nomatch q)
def cD (a:Str)(b:Int):decide ((Sum.inr a:Key)=Sum.inl b)=false:=aG (λq=>nomatch q)
def kI (p:Program)(w:World):PySem.KeyKind p w Key where
 is:=JQ
 hash:=cz w
 inj:=λv a b f c=>by
  rcases ZX f with ⟨i,t,rfl,rfl⟩|⟨x,t,rfl,rfl⟩
  ·rcases ZX c with ⟨j,u,rfl,e⟩|⟨y,u,rfl,e⟩
   ·injection e with E _;rw[E]
   ·exact nomatch e
  ·rcases ZX c with ⟨j,u,rfl,e⟩|⟨y,u,rfl,e⟩
   ·exact nomatch e
   ·injection e with E _;rw[E]
 byValue:=λk v h=>by rcases ZX h with ⟨i,t,rfl,rfl⟩|⟨x,t,rfl,rfl⟩<;>rfl
 pyHash:=λH h=>by
  rcases ZX H with ⟨i,t,rfl,rfl⟩|⟨x,t,rfl,rfl⟩
  ·exact wpAny_pyHash_int h
  ·exact wpAny_pyHash_str h
 eqBool:=λd H h=>by
  rcases ZX d with ⟨i,t,rfl,rfl⟩|⟨x,t,rfl,rfl⟩
  ·rcases ZX H with ⟨j,u,rfl,rfl⟩|⟨y,u,rfl,rfl⟩
   ·rw[cA]at h;exact wpAny_eqBool_int h
   ·rw[cC]at h;exact SeqAt.EqAt.int_str i t y u _ _ _ _ h
  ·rcases ZX H with ⟨j,u,rfl,rfl⟩|⟨y,u,rfl,rfl⟩
   ·rw[cD]at h;exact SeqAt.EqAt.str_int x t j u _ _ _ _ h
   ·rw[cB]at h;exact wpAny_eqBool_str h
 «strs»:=λk x t v h=>by
  rcases ZX h with ⟨i,u,rfl,e⟩|⟨y,u,rfl,e⟩
  ·exact nomatch e
  ·injection e with E _
   subst E;cases v<;>rfl
def Df (p:Program)(w:World)(k:Key)(v:Value):(kI p w).is k v=JQ k v:=rfl
def Ep (p:Program)(w:World)(i:Int)(t:Tok):(kI p w).is (.inl i) (.int i t)=true:=Ck i t
def Ew (p:Program)(w:World)(x:Str)(t:Tok):(kI p w).is (.inr x) (.str x t)=true:=DY x t
inductive V where
 |non|bl (b:Bool)|int (i:Int)|str (x:Str)|byt (b:Array UInt8)|flt (b:UInt64)|ref (a:Addr)|ty (n:String)
 deriving DecidableEq
def RelV:V->Value->Prop
 |.non,u=>u=Value.none|.bl b,u=>u=Value.bool b|.int i,u=>∃t,u=Value.int i t|.str x,u=>∃t,u=Value.str x t|.byt b,u=>∃t,u=Value.bytes b t|.flt b,u=>∃t,u=Value.float b t|.ref a,u=>u=Value.ref a|.ty n,u=>u=Value.type n
abbrev Vals:List V->List Value->Prop:=Paired RelV
theorem Vals.length {x:List V}(r:Vals x us):x.length=us.length:=Paired.length r
theorem Vals.get:∀{X:List V}{U:bQ}{i:Nat}{x:V},Vals X U->X[i]? =some x->∃u,U[i]? =some u/\RelV x u
 |_,_,_,_,.nil,e=>by simp at e|_,_,0,_,.cons r _,e=>by simp at e;subst e;exact⟨_,rfl,r⟩|_,_,i+1,x,.cons _ t,e=>by
  obtain⟨u,H,h⟩:=Vals.get (i:=i) (x:=x) t (by simpa using e)
  exact⟨u,by simpa using H,h⟩
theorem Vals.set {x:V}(r:RelV x u):∀{X:List V}{U:bQ}(i:Nat),Vals X U->Vals (X.set i x) (U.set i u)
 |_,_,_,.nil=>.nil|_,_,0,.cons _ t=>.cons r t|_,_,i+1,.cons q t=>.cons q (Vals.set r i t)
theorem Vals.append:∀{x y:List V}{u a:bQ},Vals x u->Vals y a->Vals (x++y) (u++a)
 |_,_,_,_,.nil,s=>s|_,_,_,_,.cons r t,s=>.cons r (Vals.append t s)
theorem Vals.take:∀{x:List V}{u:bQ}(n:Nat),Vals x u->Vals (x.take n) (u.take n)
 |_,_,0,_=>.nil|_,_,_+1,.nil=>.nil|_,_,n+1,.cons r t=>.cons r (Vals.take n t)
theorem Vals.drop:∀{x:List V}{u:bQ}(n:Nat),Vals x u->Vals (x.drop n) (u.drop n)
 |_,_,0,r=>r|_,_,_+1,.nil=>.nil|_,_,n+1,.cons _ t=>Vals.drop n t
def Vals.none_of:∀{x:List V}{u:bQ}{i:Nat},Vals x u->x[i]? =none->u[i]? =none:=λ {x u i} r e=>by have H:=r.length;have h:x.length<=i:=List.getElem?_eq_none_iff.mp e;exact List.getElem?_eq_none_iff.mpr (by lia)
def QG:Option V->Option Value->Prop
 |some v,some u=>RelV v u|none,none=>True|_,_=>False
def KV {a:Type}:List (a×V)->List (a×Value)->Prop:=Paired λ(p:a×V) (q:a×Value)=>p.1=q.1/\RelV p.2 q.2
noncomputable def kV:Key->V
 |.inl i=>.int i|.inr x=>.str x
inductive HO where
 |lst (xs:List V)
 |tup (xs:List V)
 |dK (kvs:List (Key×V))|dT (kvs:List (List Key×V))
 |set (S:Int->Bool) (n:Nat)
 |ins (C dx:Addr) (fs:List (Str×V))
 |own (x:Addr)
 |xd (fs:List (Str×V))
 |met (f x:Addr)
 |rng (lo hi:Int)
 |frz (o:Obj) (u:HO)
 |tbl (ps:Array Value)
 |ext (φ:Heap->Prop)
abbrev Hp:=Addr->Option HO
noncomputable def upd (H:Hp)(a:Addr)(o:HO):Hp:=λb=>if b=a then some o else H b
def jN {H:Hp}{o:HO}:upd H a o a=some o:=by unfold upd;rw[ai rfl]
def qm {H:Hp}{o:HO}(h:b≠a):upd H a o b=H b:=by unfold upd;rw[aj h]
def Kc {H:Hp}{o u:HO}(h:H a=some o)(c:H b=some u)(d:o≠u):a≠b:=by intro e;subst e;rw[h]at c;exact d (aE c)
def kY {H:Hp}{o:HO}(h:H a=some o)(c:H b=none):a≠b:=by intro e;subst e;rw[h]at c;cases c
def Z6 (h:Heap)(a:Addr)(i:Array Value):Prop:=∃o,h.get? a=some o/\(o.cls=.type "tuple" /\ o.dict=none)/\∃n,o.data=.seq i n
def Z6.tup {h:Heap}{a:Addr}{i:Array Value}(x:Z6 h a i):IsTup h a i:=let ⟨o,e,c,d⟩:=x;⟨o,e,c.1,d⟩
def Z6.new (h:Heap)(i:Array Value):Z6 (h.push { cls:=.type "tuple",data:=.seq i }) h.objs.size i:=⟨_,aC h rfl,⟨rfl,rfl⟩,0,rfl⟩
section
variable (P:Program)(w:World)
def qV (H:Hp)(h:Heap)(a:Addr):HO->Prop
 |.lst X=>X.length<=sizeLine/\∃(o9:bQ) (n:Nat),Vals X o9/\h.get? a=some { cls:=.type "list",data:=.seq o9.toArray n }
 |.tup X=>X.length<=sizeLine/\∃o9:bQ,Vals X o9/\Z6 h a o9.toArray|.dK K=>K.length<=sizeLine/\(a==sysModules)=false/\∃c,KV K c/\h.DictOf (kI P w) a c|.dT K=>K.length<=sizeLine/\(a==sysModules)=false/\∃X:List (List Key×Addr×Value),
   Paired (λ(p:List Key×V) (q:List Key×Addr×Value)=>p.1=q.1/\H q.2.1=some (.tup (p.1.map kV))/\RelV p.2 q.2.2) K X/\
   ∃o e E,h.get? a=some o/\o.ExactDict/\o.data=.dict e E/\e.toList=X.map (entryOfKey (tupleKind (kI P w)))/\(X.map (·.1)).Nodup
 |.set S n=>h.SetOf (intKind P w) a S n|.ins C d fs=>H d=some (.own a)/\fs.length<=1000/\d≠a/\h.get? a=some (instObj C d)/\
   ∃M,h.Ns1 d M/\(∀f,QG (fs.lookup f) (M f))/\PySem.Within M (fs.map (·.1))
 |.own _=>∃o,h.get? a=some o|.xd fs=>∃M,h.Ns1 a M/\∀f,QG (fs.lookup f) (M f)|.rng l i=>∃t u v,h.get? a=some { cls:=.type "range",data:=.fields #[.int l t,.int i u,.int 1 v] }
 |.frz o u=>h.get? a=some o/\qV H h a u|.tbl ps=>h.get? a=some { cls:=.none,data:=.fields ps }|.met f x=>h.get? a=some (methodObj (.ref f) (.ref x))|.ext b=>b h/\(∃o,h.get? a=some o)/\∀j g:Heap,b j->(∀o,j.get? a=some o->g.get? a=some o)->b g
def jd (H:Hp)(h:Heap):Prop:=∀a o,H a=some o->qV P w H h a o
end
section
variable {w:World}{H H':Hp}{o:HO}
theorem qV.lt (x:qV P w H h a o):a<h.objs.size:=by
 cases o with|lst X=>obtain⟨_,_,_,_,e⟩:=x;exact aM e|tup X=>obtain⟨_,_,_,p⟩:=x;exact p.tup.lt|dK K=>obtain⟨_,_,_,_,o,_,_,e,_⟩:=x;exact aM e|dT K=>obtain⟨_,_,_,_,o,_,_,e,_⟩:=x;exact aM e|set S n=>obtain⟨o,_,_,_,e,_⟩:=x;exact aM e|ins C d fs=>obtain⟨_,_,_,e,_⟩:=x;exact aM e|own y=>obtain⟨_,e⟩:=x;exact aM e|xd fs=>obtain⟨_,⟨_,_,_,e,_⟩,_⟩:=x;exact aM e|rng l i=>obtain⟨_,_,_,e⟩:=x;exact aM e|frz ob u=>obtain⟨e,_⟩:=x;exact aM e|tbl ps=>exact aM (show h.get? a=some _ from x)|met f y=>exact aM (show h.get? a=some _ from x)|ext b=>obtain⟨_,⟨_,e⟩,_⟩:=x;exact aM e
theorem Paired.mapP {c:Type}{F G:α->c->Prop}:∀{L:List α}{l:List c},Paired F L l->(∀a b,F a b->G a b)->Paired G L l
 |_,_,.nil,_=>.nil|_,_,.cons r t,f=>.cons (f _ _ r) (Paired.mapP t f)
def qV.stay (x:qV P w H h a o)(k:∀b u,(b=a∨H b=some (.own a))->h.get? b=some u->h'.get? b=some u)
  (l:∀b,H b=some (.own a)->H' b=some (.own a))(Q:∀b xs,H b=some (.tup xs)->H' b=some (.tup xs)):qV P w H' h' a o:=by
 induction o with
 |lst xs=>obtain⟨z,i,n,r,e⟩:=x;exact⟨z,i,n,r,k _ _ (.inl rfl) e⟩|tup xs=>obtain⟨z,i,r,ob,e,c⟩:=x;exact⟨z,i,r,ob,k _ _ (.inl rfl) e,c⟩|dK K=>obtain⟨z,y,L,r,ob,E,g,e,c⟩:=x;exact⟨z,y,L,r,ob,E,g,k _ _ (.inl rfl) e,c⟩|dT K=>
  obtain⟨z,y,xs,r,ob,E,g,e,c⟩:=x;exact⟨z,y,xs,Paired.mapP r λp q z=>⟨z.1,Q _ _ z.2.1,z.2.2⟩,ob,E,g,k _ _ (.inl rfl) e,c⟩
 |set S n=>obtain⟨ob,E,g,t,e,c⟩:=x;exact⟨ob,E,g,t,k _ _ (.inl rfl) e,c⟩|ins C D fs=>
  obtain⟨d,z,N,e,M,⟨j,E,g,A,c⟩,r⟩:=x;exact⟨l _ d,z,N,k _ _ (.inl rfl) e,M,⟨j,E,g,k _ _ (.inr d) A,c⟩,r⟩
 |own y=>obtain⟨ob,e⟩:=x;exact⟨ob,k _ _ (.inl rfl) e⟩|xd fs=>obtain⟨M,⟨j,E,g,e,c⟩,r⟩:=x;exact⟨M,⟨j,E,g,k _ _ (.inl rfl) e,c⟩,r⟩|rng U B=>obtain⟨t,u,v,e⟩:=x;exact⟨t,u,v,k _ _ (.inl rfl) e⟩|frz ob u I=>obtain⟨e,q⟩:=x;exact⟨k _ _ (.inl rfl) e,I q⟩|tbl ps=>
  have e:h.get? a=some { cls:=.none,data:=.fields ps }:=x;show h'.get? a=some { cls:=.none,data:=.fields ps };exact k a _ (.inl rfl) e
 |met f y=>
  have e:h.get? a=some (methodObj (.ref f) (.ref y)):=x;show h'.get? a=some (methodObj (.ref f) (.ref y));exact k a _ (.inl rfl) e
 |ext T=>obtain⟨p,⟨o,e⟩,J⟩:=x;exact⟨J _ _ p λo q=>k _ _ (.inl rfl) q,⟨o,k _ _ (.inl rfl) e⟩,J⟩
theorem jd.lt (x:jd P w H h)(e:H a=some o):a<h.objs.size:=(x a o e).lt
def jd.fresh (x:jd P w H h)(e:h.objs.size<=a):H a=none:=by
 cases q:H a with|none=>rfl|some u=>exact absurd (aK (x.lt q) e) (aT _)
def jd.kept (x:jd P w H h)(k:∀b u,h.get? b=some u->h'.get? b=some u):jd P w H h':=λa o e=>
 (x a o e).stay (λb u _ q=>k b u q) (λ_ q=>q) λ_ _ q=>q
def jd.laid (x:jd P w H h)(k:∀b u,h.get? b=some u->h'.get? b=some u)(p:h.objs.size<=a)(new:qV P w (upd H a o) h' a o):jd P w (upd H a o) h':=λb u e=>by
 have n:=x.fresh p
 by_cases d:b=a
 ·subst d;rw[jN]at e;cases e;exact new
 ·rw[qm d]at e
  exact(x b u e).stay (λc v _ q=>k c v q) (λc q=>by rw[qm (kY q n)];exact q) λc X q=>by rw[qm (kY q n)];exact q
end
def Rd (H:Hp)(a:Addr)(u:HO):Prop:=H a=some u∨∃o,H a=some (.frz o u)
def Rd.ok {w:World}{H:Hp}{u:HO}(r:Rd H a u)(x:jd P w H h):qV P w H h a u:=by
 rcases r with r|⟨o,r⟩
 ·exact x a u r
 ·obtain⟨_,q⟩:=x a _ r
  exact q
def W6:Option HO->Prop
 |some (.lst _)=>True|some (.dK _)=>True|some (.dT _)=>True|some (.set _ _)=>True|some (.ins _ _ _)=>True|some (.ext _)=>True|_=>False
section
variable {w:World}{H:Hp}{x e:Addr}{o':HO}
def jd.write (ok:jd P w H h)(M:W6 (H x))(i:e=x∨H e=some (.own x))(k:∀b u,b≠e->h.get? b=some u->h'.get? b=some u)(o:∃u,h'.get? e=some u)
  (new:qV P w (upd H x o') h' x o'):jd P w (upd H x o') h':=λb u q=>by
 have n:∀c y,H c=some (.own y)->c≠x:=λc y r z=>by subst z;rw[r]at M;exact M
 have N:∀c X,H c=some (.tup X)->c≠x:=λc X r z=>by subst z;rw[r]at M;exact M
 by_cases f:b=x
 ·subst f;rw[jN]at q;cases q;exact new
 ·rw[qm f]at q
  by_cases a:b=e
  ·have Q:H b=some (.own x):=by
    rcases i with z|z
    ·exact absurd (a.trans z) f
    ·rw[a];exact z
   rw[q]at Q;cases Q;obtain⟨v,g⟩:=o;exact⟨v,by rw[a];exact g⟩
  ·refine(ok b u q).stay (λc v d r=>k c v ?_ r) (λc r=>by rw[qm (n c b r)];exact r) λc X r=>by rw[qm (N c X r)];exact r
   rcases d with rfl|d
   ·exact a
   ·rintro rfl
    rcases i with z|z
    ·exact n c b d z
    ·rw[d]at z;cases z;exact f rfl
end
structure Un (fs ex:bR)(H H':Hp)(h h':Heap):Prop where
 keep:∀b o,h.get? b=some o->H b=none->b∉fs->b∉ex->h'.get? b=some o
 slot:∀b o,h.get? b=some o->H b=none->b∈fs->b∉ex->∃sl,h'.get? b=some { o with slots:=sl }
 free:∀b o,h.get? b=some o->H b=none->b∉ex->H' b=none
 there:∀b o,h.get? b=some o->b∉ex->∃o',h'.get? b=some o'
 tups:∀b xs,H b=some (.tup xs)->H' b=some (.tup xs)
 frzs:∀b o u,H b=some (.frz o u)->H' b=some (.frz o u)
 tbls:∀b ps,H b=some (.tbl ps)->∃more,H' b=some (.tbl (ps++more))
section
variable {fs ex:bR}{H H1:Hp}{h1:Heap}{x e:Addr}{o:HO}
def Un.any (u:Un fs ex H H1 h h1){ob:Obj}(q:h.get? b=some ob)(n:H b=none)(x:b∉ex):∃S,h1.get? b=some { ob with slots:=S }:=by
 by_cases a:b∈fs
 ·exact u.slot b ob q n a x
 ·exact⟨ob.slots,u.keep b ob q n a x⟩
def Un.kept (k:∀b u,h.get? b=some u->h'.get? b=some u):Un fs ex H H h h':=
 ⟨λb ob q _ _ _=>k b ob q,λb ob q _ _ _=>⟨ob.slots,k b ob q⟩,λ_ _ _ n _=>n,λb ob q _=>⟨ob,k b ob q⟩,λ_ _ q=>q,λ_ _ _ q=>q,λ_ ps q=>⟨#[],by rw[q];simp⟩⟩
def Un.refl:Un fs ex H H h h:=Un.kept λ_ _ q=>q
def Un.laid (k:∀b u,h.get? b=some u->h'.get? b=some u)(p:h.objs.size<=a)(c:H a=none):Un fs ex H (upd H a o) h h' where
 keep:=λb u q _ _ _=>k b u q
 slot:=λb u q _ _ _=>⟨u.slots,k b u q⟩
 free:=λb u q n _=>by rw[qm (aO (aK (aM q) p))];exact n
 there:=λb u q _=>⟨u,k b u q⟩
 tups:=λb x q=>by rw[qm (kY q c)];exact q
 frzs:=λb u x q=>by rw[qm (kY q c)];exact q
 tbls:=λb ps q=>⟨#[],by rw[qm (kY q c),q];simp⟩
def Un.write (M:W6 (H x))(i:e=x∨H e=some (.own x))(k:∀b u,b≠e->h.get? b=some u->h'.get? b=some u)(c:∃u,h'.get? e=some u):Un fs ex H (upd H x o) h h':=by
 have d:∀b,H b=none->b≠x:=λb n z=>by subst z;rw[n]at M;exact M
 have f:∀b,H b=none->b≠e:=λb n z=>by
  subst z;rcases i with r|r
  ·exact d b n r
  ·rw[n]at r;cases r
 have g:∀b u,H b=some u->¬W6 (some u)->b≠x:=λb u q nm z=>by subst z;rw[q]at M;exact nm M
 refine⟨λb u q n _ _=>k b u (f b n) q,λb u q n _ _=>⟨u.slots,k b u (f b n) q⟩,λb u q n _=>by rw[qm (d b n)];exact n,λb u q _=>?_,
  λb X q=>by rw[qm (g b _ q λz=>z)];exact q,λb u X q=>by rw[qm (g b _ q λz=>z)];exact q,λb ps q=>⟨#[],by rw[qm (g b _ q λz=>z),q];simp⟩⟩
 by_cases a:b=e
 ·subst a;exact c
 ·exact⟨u,k b u a q⟩
end
noncomputable def Vz (h:Heap)(H:Hp):bR:=(List.range h.objs.size).filter λa=>(H a).isSome
def Qf (h:Heap)(H:Hp):Heap:=hideAll h (Vz h H)
def Cj (h:Heap)(H:Hp):(Qf h H).objs.size=h.objs.size:=hideAll_size _ _
def CC {H:Hp}{o:Obj}(e:h.get? b=some o)(n:H b=none):(Qf h H).get? b=some o:=
 bG _ e λa=>by have q:(H b).isSome=true:=(List.mem_filter.mp a).2;rw[n]at q;simp at q
def cF {H:Hp}{o:Obj}(e:(Qf h H).get? b=some o):h.get? b=some o/\H b=none:=by
 have E:h.get? b=some o:=of_hideAll (Vz h H) e;refine⟨E,?_⟩;cases q:H b with
 |none=>rfl|some x=>
  have a:b∈Vz h H:=List.mem_filter.mpr ⟨cj.mpr (aM E),by simp[q]⟩
  have z:(Qf h H).get? b=none:=hideAll_none (Vz h H) a;rw[z]at e;cases e
structure Mod (K:Frag)(mg:bY)(base:Heap):Prop where
 kin:K.In base
 glob:base.Ns mainGlobals mg
 blt:∃mb,base.Ns builtinsNs mb/\∀x:Str,x ≠ "__name__" -> mb x=bootBuiltins x
 nolimit:base.NoLimit
structure Cx where
 prog:Program
 w:World
 K:Frag
 mg:Str->Option Value
 base:Heap
 A:Around
 N:bU
 s0:Shared
 H0:Hp
 env:Env
 outer:bZ
 stack:bZ
 ex:bR
 fn:Str->Bool
 calm:Bool
 pn:bS
 xe:Value->Shared->Prop
def qL (l:bZ):bR:=l.filterMap (·.frame)
abbrev Cx.fs (X:Cx):bR:=qL X.outer
def WW (S:Scope)(x:Str):Prop:=S.names.lookup x=some .local∨S.names.lookup x=some .cell∨S.names.lookup x=some .free
def Loc (S:Scope)(x:Str):Prop:=S.names.lookup x=some .local∨S.names.lookup x=some .cell
def Look (e:Env)(h:Heap)(m:bY)(x:Str)(u:Value):Prop:=
 (e.kindOf x=some .local/\m x=some u)∨((e.kindOf x=some .cell∨e.kindOf x=some .free)/\∃c,e.cells.lookup x=some c/\h.IsCell c (some u))
structure Cx.Ok (X:Cx):Prop where
 mod:Mod X.K X.mg X.base
 kind:X.env.scope.kind=.function
 glob:X.env.globals=mainGlobals
 blt:X.env.builtins=builtinsNs
 above:X.s0.heap.objs.size<=X.env.locals
 inj:∀x y c,X.env.cells.lookup x=some c->X.env.cells.lookup y=some c->x=y
 has:∀x,(X.env.kindOf x=some .cell∨X.env.kindOf x=some .free)->∃c,X.env.cells.lookup x=some c
 cab:∀x c,X.fn x=true->X.env.cells.lookup x=some c->X.s0.heap.objs.size<=c
 hd:X.calm=true->X.A.handled=none
 frames:X.A.frames=some X.stack
 stk:X.stack=X.outer∨(X.stack=X.env::X.outer/\X.env.frame=some X.env.locals)
 exf:∀b∈X.ex,b≠X.env.locals/\∀x c,X.env.cells.lookup x=some c->c≠b
 bs:∀b o,X.base.get? b=some o->X.s0.heap.get? b=some o/\X.H0 b=none
 bsz:X.base.objs.size<=X.s0.heap.objs.size
 noex:∀b o,X.base.get? b=some o->b∉X.ex
 exfs:∀b∈X.ex,b∉X.fs
 funs:X.s0.heap.FunFrames X.base X.outer
 frf:∀b∈X.fs,X.H0 b=none
structure Inv (X:Cx)(o5:bS)(σ:List (Option V))(H:Hp)(s:Shared):Prop where
 ok:X.Ok
 os:s.os=X.s0.os
 bare:AllBare s.gens
 base:Un X.fs X.ex X.H0 H X.s0.heap s.heap
 loc:∃m,s.heap.Ns X.env.locals m/\∀(i:Nat)(x:Str)(v:V),X.N[i]? =some x->σ[i]? =some (some v)->WW X.env.scope x->∃u,RelV v u/\Look X.env s.heap m x u
 cell:∀x c,X.env.cells.lookup x=some c->∃v,s.heap.IsCell c v
 free:H X.env.locals=none
 freeC:∀x c,X.env.cells.lookup x=some c->H c=none
 pin:∀p∈X.pn++o5,s.heap.get? p.1=some p.2/\H p.1=none/\p.1≠X.env.locals/\p.1∉X.fs/\∀v,p.2.data≠.cell v
 hok:jd X.prog X.w H s.heap
 len:σ.length=X.N.length
section
variable {X:Cx}{σ:List (Option V)}{H H':Hp}{s:Shared}
def Cx.Ok.nofr (ok:X.Ok){o:Obj}(e:X.base.get? b=some o):b∉X.fs:=λh=>by
 have:=(ok.funs.mem h).1
 rw[e]at this;cases this
theorem Inv.bs (I:Inv X o5 σ H s):∀b o,X.base.get? b=some o->s.heap.get? b=some o/\H b=none:=λb o e=>
 ⟨I.base.keep b o (I.ok.bs b o e).1 (I.ok.bs b o e).2 (I.ok.nofr e) (I.ok.noex b o e),I.base.free b o (I.ok.bs b o e).1 (I.ok.bs b o e).2 (I.ok.noex b o e)⟩
def Inv.bk (I:Inv X o5 σ H s):∀b o,X.base.get? b=some o->s.heap.get? b=some o:=λb o e=>(I.bs b o e).1
theorem Inv.mod (I:Inv X o5 σ H s):Mod X.K X.mg X.base:=I.ok.mod
def Inv.kIn (I:Inv X o5 σ H s):X.K.In s.heap:=I.ok.mod.kin.keeps I.bk
theorem Inv.lt (I:Inv X o5 σ H s):X.env.locals<s.heap.objs.size:=let ⟨_,h,_⟩:=I.loc;h.lt
def Inv.sz (I:Inv X o5 σ H s):X.s0.heap.objs.size<=s.heap.objs.size:=aZ I.ok.above (bI I.lt)
def Inv.nofs (I:Inv X o5 σ H s)(h:s.heap.objs.size<=a):a∉X.fs:=λc=>by obtain⟨_,o,b,_⟩:=I.ok.funs.mem c;exact absurd (aK (aM b) (aZ I.sz h)) (aT _)
def Inv.cne (I:Inv X o5 σ H s):∀x c,X.env.cells.lookup x=some c->c≠X.env.locals:=λx c e z=>by obtain⟨v,o,b,d⟩:=I.cell x c e;obtain⟨m,⟨f,E,p,h,a,_⟩,_⟩:=I.loc;rw[z,h]at b;cases b;rw[a]at d;cases d
theorem Inv.funs (I:Inv X o5 σ H s):s.heap.FunFrames X.base X.outer:=by
 have all:∀(l:bZ),(∀b∈qL l,b∈X.fs)->X.s0.heap.FunFrames X.base l->s.heap.FunFrames X.base l:=by
  intro l
  induction l with
  |nil=>intro _ _;trivial|cons E r i=>
   intro c g;obtain⟨j,⟨L,o,n,p,f,q⟩,d⟩:=g;have a:L∈X.fs:=c L (by unfold qL;rw[ba,n];exact aF)
   obtain⟨S,e⟩:=I.base.slot L o f (I.ok.frf L a) a λz=>I.ok.exfs L z a;exact⟨j,⟨L,_,n,p,e,q⟩,i (λb h=>c b (by unfold qL;rw[ba,n];exact az _ h)) d⟩
 exact all X.outer (λ_ h=>h) I.ok.funs
theorem Inv.stack (I:Inv X o5 σ H s):s.heap.FunFrames X.base X.stack:=by
 rcases I.ok.stk with e|⟨e,hf⟩
 ·rw[e];exact I.funs
 ·rw[e]
  obtain⟨m,h,_⟩:=I.loc;refine .cons (by rw[I.ok.kind];decide) hf h ?_ I.funs
  exact Heap.get?_none_of_le (aZ I.ok.bsz I.ok.above)
def Inv.stkSub (I:Inv X o5 σ H s):∀b∈qL X.stack,b∈X.env.locals::X.fs:=λb h=>by
 rcases I.ok.stk with e|⟨e,hf⟩
 ·rw[e]at h;exact az _ h
 ·rw[e]at h
  unfold qL at h;rw[ba,hf]at h;exact h
def Inv.stkFree (I:Inv X o5 σ H s):∀b∈qL X.stack,H b=none:=λb h=>by
 rcases cn.mp (I.stkSub b h) with e|h
 ·rw[e];exact I.free
 ·obtain⟨_,o,a,_⟩:=I.ok.funs.mem h
  exact I.base.free b o a (I.ok.frf b h) λz=>I.ok.exfs b z h
def Inv.step {g':Array GenState}{d':Drawn}{ch:bR}(I:Inv X o5 σ H s)
  (a:∀b∈ch,(b∈X.ex∨X.s0.heap.objs.size<=b)/\b≠X.env.locals/\(∀x c,X.env.cells.lookup x=some c->c≠b)/\∀p∈X.pn++o5,p.1≠b)
  (keep:∀b o,b≠X.env.locals->b∉X.fs->b∉ch->s.heap.get? b=some o->H b=none->h'.get? b=some o)
  (Q:∀b o,b≠X.env.locals->b∈X.fs->b∉ch->s.heap.get? b=some o->H b=none->∃t,h'.get? b=some { o with slots:=t })(M:∀b o,b∉ch->s.heap.get? b=some o->H b=none->H' b=none)
  (there:∀b o,b∉ch->s.heap.get? b=some o->∃o',h'.get? b=some o')
  (T:∀b xs,H b=some (.tup xs)->H' b=some (.tup xs))(Z:∀b o u,H b=some (.frz o u)->H' b=some (.frz o u))(U:∀b ps,H b=some (.tbl ps)->∃Y,H' b=some (.tbl (ps++Y)))
  (ns:∀m,s.heap.Ns X.env.locals m->h'.Ns X.env.locals m)(hok:jd X.prog X.w H' h')(J:AllBare g'):
  Inv X o5 σ H' { s with heap:=h',gens:=g',drawn:=d',toks:=t' }:=by
 have L:∀b o,X.s0.heap.get? b=some o->b≠X.env.locals:=λb o e=>aO (aK (aM e) I.ok.above);have C:∀b o,X.s0.heap.get? b=some o->b∉X.ex->b∉ch:=λb o e h f=>by
  rcases(a b f).1 with z|z
  ·exact h z
  ·exact absurd (aK (aM e) z) (aT _)
 have P:∀x c,X.env.cells.lookup x=some c->∀v,s.heap.IsCell c v->h'.IsCell c v:=λx c e v ⟨o,g,hd⟩=>by
  have N:c∉ch:=λz=>(a c z).2.2.1 x c e rfl
  by_cases B:c∈X.fs
  ·obtain⟨t,q⟩:=Q c o (I.cne x c e) B N g (I.freeC x c e)
   exact⟨_,q,hd⟩
  ·exact⟨o,keep c o (I.cne x c e) B N g (I.freeC x c e),hd⟩
 refine⟨I.ok,I.os,J,⟨λb o e n f h=>?_,λb o e n f h=>?_,λb o e n h=>?_,λb o e h=>?_,λb xs e=>T b xs (I.base.tups b xs e),λb o xs e=>Z b o xs (I.base.frzs b o xs e),λb ps e=>?_⟩,?_,λx c e=>?_,?_,λx c e=>?_,λp A=>?_,hok,I.len⟩
 ·exact keep b o (L b o e) f (C b o e h) (I.base.keep b o e n f h) (I.base.free b o e n h)
 ·obtain⟨t,E⟩:=I.base.slot b o e n f h
  obtain⟨S,j⟩:=Q b _ (L b o e) f (C b o e h) E (I.base.free b o e n h);exact⟨S,j⟩
 ·obtain⟨o',E⟩:=I.base.there b o e h
  exact M b o' (C b o e h) E (I.base.free b o e n h)
 ·obtain⟨o',E⟩:=I.base.there b o e h
  exact there b o' (C b o e h) E
 ·obtain⟨m1,E⟩:=I.base.tbls b ps e
  obtain⟨m2,j⟩:=U b _ E;exact⟨m1++m2,by rw[j,Array.append_assoc]⟩
 ·obtain⟨m,hn,D⟩:=I.loc
  refine⟨m,ns m hn,λi x v E j K=>?_⟩;obtain⟨u,r,l⟩:=D i x v E j K;refine⟨u,r,?_⟩;rcases l with l|⟨k,c,e,z⟩
  ·exact .inl l
  ·exact .inr ⟨k,c,e,P x c e _ z⟩
 ·obtain⟨v,z⟩:=I.cell x c e
  exact⟨v,P x c e v z⟩
 ·obtain⟨m,⟨o,_,_,g,_⟩,_⟩:=I.loc
  exact M _ o (λz=>(a _ z).2.1 rfl) g I.free
 ·obtain⟨v,o,g,hd⟩:=I.cell x c e
  exact M c o (λz=>(a c z).2.2.1 x c e rfl) g (I.freeC x c e)
 ·obtain⟨e,n,ne,y,d⟩:=I.pin p A
  have N:p.1∉ch:=λz=>(a p.1 z).2.2.2 p A rfl;exact⟨keep p.1 p.2 ne y N e n,M p.1 p.2 N e n,ne,y,d⟩
def Inv.un (I:Inv X o5 σ H s)(u:Un X.fs [] H H' s.heap h')(i:jd X.prog X.w H' h'):Inv X o5 σ H' { s with heap:=h',toks:=t' }:=by
 obtain⟨m,⟨o,g,p,d,r⟩,_⟩:=id I.loc;obtain⟨S,L⟩:=u.any d I.free (by simp)
 exact I.step (g':=s.gens) (d':=s.drawn) (ch:=[]) (λ_ z=>nomatch z) (λb o _ a _ e n=>u.keep b o e n a (by simp)) (λb o _ a _ e n=>u.slot b o e n a (by simp)) (λb o _ e n=>u.free b o e n (by simp)) (λb o _ e=>u.there b o e (by simp)) u.tups u.frzs u.tbls (λM j=>by obtain⟨l,E,c,h,f⟩:=j;rw[d]at h;cases h;exact⟨_,E,c,L,f⟩) i I.bare
def Inv.call {g':Array GenState}{d':Drawn}{ch:bR}(I:Inv X o5 σ H s)(u:Un (qL X.stack) ch H H' s.heap h')(v:jd X.prog X.w H' h')(j:AllBare g')
  (d:∀b∈ch,(b∈X.ex∨X.s0.heap.objs.size<=b)/\b≠X.env.locals/\(∀x c,X.env.cells.lookup x=some c->c≠b)/\∀p∈X.pn++o5,p.1≠b):
  Inv X o5 σ H' { s with heap:=h',gens:=g',drawn:=d',toks:=t' }:=by
 obtain⟨m,⟨o,q,t,g,r⟩,_⟩:=id I.loc;obtain⟨S,L⟩:=u.any g I.free λz=>(d _ z).2.1 rfl;exact I.step (ch:=ch) d (λb o L l h e n=>u.keep b o e n (λz=>(cn.mp (I.stkSub b z)).elim L l) h) (λb o _ _ h e n=>u.any e n h) (λb o h e n=>u.free b o e n h) (λb o h e=>u.there b o e h) u.tups u.frzs u.tbls (λM y=>by obtain⟨A,E,f,a,i⟩:=y;rw[g]at a;cases a;exact⟨_,E,f,L,i⟩) v j
def Inv.turned {i:Addr}(I:Inv X o5 σ H s)(k:∀b o,b≠i->s.heap.get? b=some o->h'.get? b=some o)(j:H i=none)(L:i≠X.env.locals)
  (y:i∈X.ex∨X.s0.heap.objs.size<=i)(t:∀x c,X.env.cells.lookup x=some c->c≠i)(f:∀p∈X.pn++o5,p.1≠i):Inv X o5 σ H { s with heap:=h',toks:=t' }:=by
 have N:∀b u,H b=some u->b≠i:=λb u e z=>by rw[z,j]at e;cases e
 refine I.step (g':=s.gens) (d':=s.drawn) (ch:=[i]) (λb d=>?_) (λb o _ _ h e _=>k b o (λz=>h (by simp[z])) e) (λb o _ _ h e _=>⟨o.slots,k b o (λz=>h (by simp[z])) e⟩) (λ_ _ _ _ n=>n)
  (λb o h e=>⟨o,k b o (λz=>h (by simp[z])) e⟩) (λ_ _ e=>e) (λ_ _ _ e=>e) (λb ps e=>⟨#[],by rw[e];simp⟩) (λm l=>?_) (λb u e=>?_) I.bare
 ·have e:b=i:=by simpa using d
  subst e;exact⟨y,L,t,f⟩
 ·obtain⟨o,E,g,a,r⟩:=l
  exact⟨o,E,g,k _ o (Ne.symm L) a,r⟩
 ·refine(I.hok b u e).stay (λc v h q=>k c v ?_ q) (λ_ q=>q) λ_ _ q=>q
  rcases h with z|z
  ·rw[z];exact N b u e
  ·exact N c _ z
def Inv.tok (I:Inv X o5 σ H s)(t:Nat):Inv X o5 σ H { s with toks:=t }:=I.un (h':=s.heap) (t':=t) Un.refl I.hok
theorem Inv.kept (I:Inv X o5 σ H s)(k:∀b u,s.heap.get? b=some u->h'.get? b=some u):Inv X o5 σ H { s with heap:=h',toks:=t' }:=I.un (Un.kept k) (I.hok.kept k)
theorem Inv.laid {o:HO}(I:Inv X o5 σ H s)(k:∀b u,s.heap.get? b=some u->h'.get? b=some u)(h:s.heap.objs.size<=a)(new:qV X.prog X.w (upd H a o) h' a o):
  Inv X o5 σ (upd H a o) { s with heap:=h',toks:=t' }:=I.un (Un.laid k h (I.hok.fresh h)) (I.hok.laid k h new)
theorem Inv.write {x e:Addr}{o:HO}(I:Inv X o5 σ H s)(M:W6 (H x))(a:e=x∨H e=some (.own x))(k:∀b u,b≠e->s.heap.get? b=some u->h'.get? b=some u)(h:∃u,h'.get? e=some u)
  (new:qV X.prog X.w (upd H x o) h' x o):Inv X o5 σ (upd H x o) { s with heap:=h',toks:=t' }:=I.un (Un.write M a k h) (I.hok.write M a k h new)
def Inv.pins_of {P:bS}(I:Inv X o5 σ H s)(h:∀p∈P,s.heap.get? p.1=some p.2/\H p.1=none/\p.1≠X.env.locals/\p.1∉X.fs/\∀v,p.2.data≠.cell v):Inv X P σ H s:=
 ⟨I.ok,I.os,I.bare,I.base,I.loc,I.cell,I.free,I.freeC,λp a=>(cy.mp a).elim (λz=>I.pin p (bt _ z)) (h p),I.hok,I.len⟩
def U5 (h:N.Nodup){j:Nat}(a:N[i]? =some x)(b:N[j]? =some x):i=j:=by obtain⟨c,E⟩:=cm.mp a;obtain⟨H,e⟩:=cm.mp b;exact(getElem_inj h).mp (E.trans e.symm)
def Oz {A:Around}{v:V}{Q:Unit->Shared->Prop}(I:Inv X o5 σ H s)(hN:X.N.Nodup)(U:X.N[i]? =some x)(t:Loc X.env.scope x)(r:RelV v u)
  (h:∀s',Inv X o5 (σ.set i (some v)) H s'->(∃a,Heap.SameBut a s.heap s'.heap/\(a=X.env.locals∨X.env.cells.lookup x=some a))->Q () s')(hf:X.fn x=true∨X.env.scope.names.lookup x=some .local:=by first|exact .inl rfl|exact .inr rfl|assumption):wpAny M A (storeName X.env x u) Q E s:=by
 obtain⟨m,hn,hl⟩:=id I.loc;have Y:(X.env.scope.kind==.class || (X.env.scope.kind==.module&&X.env.locals != X.env.globals))=false:=by rw[I.ok.kind];rfl
 have J:i < σ.length:=by rw[I.len];exact(cm.mp U).1
 have cne:=I.cne;have tracked:∀{a:Addr}{h':Heap},(∃o,s.heap.get? a=some o/\H a=none)->Heap.SameBut a s.heap h'->jd X.prog X.w H h':=λ {a h'} ha f b ob e=>by
  obtain⟨_,_,B⟩:=ha;refine(I.hok b ob e).stay (λc w' l q=>(f.2 c ?_).trans q) (λ_ q=>q) λ_ _ q=>q
  rintro rfl
  rcases l with rfl|l
  ·rw[B]at e;cases e
  ·rw[B]at l;cases l
 rcases t with D|D
 ·refine wpAny_storeName_local D hn (λh' hn' f=>?_) Y
  obtain⟨oL,_,_,hoL,_⟩:=id hn;refine h _ ⟨I.ok,I.os,I.bare,⟨λb o e n P t=>?_,λb o e n P t=>?_,I.base.free,λb o e t=>?_,I.base.tups,I.base.frzs,I.base.tbls⟩,⟨_,hn',λj y v' g C e3=>?_⟩,λy c e=>?_,I.free,I.freeC,λp hp=>?_,tracked ⟨oL,hoL,I.free⟩ f,by simpa using I.len⟩ ⟨_,f,.inl rfl⟩
  ·exact(f.2 b (aO (aK (aM e) I.ok.above))).trans (I.base.keep b o e n P t)
  ·obtain⟨sl,g⟩:=I.base.slot b o e n P t
   exact⟨sl,(f.2 b (aO (aK (aM e) I.ok.above))).trans g⟩
  ·obtain⟨o',g⟩:=I.base.there b o e t
   exact⟨o',(f.2 b (aO (aK (aM e) I.ok.above))).trans g⟩
  ·by_cases K:j=i
   ·subst K
    rw[U]at g;cases g;rw[ar J]at C;cases C;exact⟨u,r,.inl ⟨D,by simp⟩⟩
   ·rw[av (Ne.symm K)]at C
    obtain⟨u',r',q⟩:=hl j y v' g C e3;refine⟨u',r',?_⟩;rcases q with ⟨k,e⟩|⟨k,c,e,z⟩
    ·refine .inl ⟨k,?_⟩
     have:y≠x:=λe=>K (U5 hN g (e ▸ U))
     simp[this,e]
    ·exact .inr ⟨k,c,e,z.sameBut f (cne y c e)⟩
  ·obtain⟨w',z⟩:=I.cell y c e
   exact⟨w',z.sameBut f (cne y c e)⟩
  ·obtain⟨e,n,ne,nf,d⟩:=I.pin p hp
   exact⟨(f.2 p.1 ne).trans e,n,ne,nf,d⟩
 ·have L:X.fn x=true:=by
   rcases hf with z|z
   ·exact z
   ·rw[z]at D;cases D
  obtain⟨c,l⟩:=I.ok.has x (.inl D);obtain⟨w',z⟩:=I.cell x c l;refine wpAny_storeName_cell I.ok.kind D l z (λh' hc' f=>?_);obtain⟨oc,T,S⟩:=id z;refine h { s with heap:=h' } ⟨I.ok,I.os,I.bare,⟨λb o e n P t=>?_,λb o e n P t=>?_,I.base.free,λb o e t=>?_,I.base.tups,I.base.frzs,I.base.tbls⟩,⟨m,hn.sameBut f (Ne.symm (cne x c l)),λj y v' g C e3=>?_⟩,λy c' e=>?_,I.free,I.freeC,λp hp=>?_,tracked ⟨oc,T,I.freeC x c l⟩ f,by simpa using I.len⟩ ⟨c,f,.inr l⟩
  ·exact(f.2 b (aO (aK (aM e) (I.ok.cab x c L l)))).trans (I.base.keep b o e n P t)
  ·obtain⟨sl,g⟩:=I.base.slot b o e n P t
   exact⟨sl,(f.2 b (aO (aK (aM e) (I.ok.cab x c L l)))).trans g⟩
  ·obtain⟨o',g⟩:=I.base.there b o e t
   exact⟨o',(f.2 b (aO (aK (aM e) (I.ok.cab x c L l)))).trans g⟩
  ·by_cases K:j=i
   ·subst K
    rw[U]at g;cases g;rw[ar J]at C;cases C;exact⟨u,r,.inr ⟨.inl D,c,l,hc'⟩⟩
   ·rw[av (Ne.symm K)]at C
    obtain⟨u',r',q⟩:=hl j y v' g C e3;refine⟨u',r',?_⟩;rcases q with q|⟨k,c',e,z'⟩
    ·exact .inl q
    ·refine .inr ⟨k,c',e,z'.sameBut f ?_⟩
     rintro rfl
     exact K (U5 hN g (I.ok.inj _ _ _ e l ▸ U))
  ·by_cases Z:c'=c
   ·subst Z;exact⟨_,hc'⟩
   ·obtain⟨w2,z2⟩:=I.cell y c' e
    exact⟨w2,z2.sameBut f Z⟩
  ·obtain⟨e,n,ne,nf,d⟩:=I.pin p hp
   refine⟨(f.2 p.1 ?_).trans e,n,ne,nf,d⟩;intro q;rw[q,T]at e;have q':oc=p.2:=aE e;exact d w' (by rw[<- q'];exact S)
def YG {A:Around}{v:V}{Q:Unit->Shared->Prop}(I:Inv X o5 σ H s)(c:X.N.Nodup)(b:X.N[i]? =some x)(a:Loc X.env.scope x)(r:RelV v u)
  (h:∀s',Inv X o5 (σ.set i (some v)) H s'->Q () s')(f:X.fn x=true∨X.env.scope.names.lookup x=some .local:=by first|exact .inl rfl|exact .inr rfl|assumption):wpAny M A (storeName X.env x u) Q E s:=
 Oz I c b a r (λs' d _=>h s' d) f
def Inv.call' {ch:bR}(I:Inv X o5 σ H s)(o:s'.os=s.os)(u:Un (qL X.stack) ch H H' s.heap s'.heap)(a:jd X.prog X.w H' s'.heap)(g:AllBare s'.gens)
  (h:∀b∈ch,(b∈X.ex∨X.s0.heap.objs.size<=b)/\b≠X.env.locals/\(∀x c,X.env.cells.lookup x=some c->c≠b)/\∀p∈X.pn++o5,p.1≠b):Inv X o5 σ H' s':=by
 obtain⟨i,f,D,t,d⟩:=s';have e:d=s.os:=o;subst e;exact I.call (g':=f) (t':=t) (d':=D) u a g h
end
abbrev XK:=Value->Option Addr->Hp->Prop
abbrev St:=List (Option V)
abbrev VK:=V->Hp->Prop
abbrev TE:=St->Hp->VK->Prop
abbrev TT:=St->Hp->(Bool->Hp->Prop)->Prop
abbrev TA:=St->Hp->(List V->Hp->Prop)->Prop
structure Ends where
 nx:St->Hp->Prop
 rt:VK
 bk:St->Hp->Prop:=λ_ _=>False
 ct:St->Hp->Prop:=λ_ _=>False
abbrev TS:=Ends->St->Hp->Prop
inductive EP (X:Cx)(o5:bS)(σ:St)(Q:VK)(u:Value)(s':Shared):Prop
 |mk (v:V) (H':Hp) (I:Inv X o5 σ H' s') (r:RelV v u) (q:Q v H')
def TP (X:Cx)(p:bS)(a:St)(Q:Bool->Hp->Prop)(b:Bool)(S:Shared):Prop:=∃H,Inv X p a H S/\Q b H
inductive AP (X:Cx)(o5:bS)(σ:St)(Q:List V->Hp->Prop)(us:bQ)(s':Shared):Prop
 |mk (vs:List V) (H':Hp) (I:Inv X o5 σ H' s') (r:Vals vs us) (q:Q vs H')
def SP (X:Cx)(p:bS)(D:Ends)(f:Flow)(S:Shared):Prop:=
 match f with|.next=>∃a H,Inv X p a H S/\D.nx a H|.brk=>∃a H,Inv X p a H S/\D.bk a H|.cont=>∃a H,Inv X p a H S/\D.ct a H|.ret u=>∃v a H,Inv X p a H S/\RelV v u/\D.rt v H
def PE (X:Cx)(e:Expr)(t:TE):Prop:=
 ∀(o5:bS)(s:Shared)(σ:St)(H:Hp)(Q:VK),Inv X o5 σ H s->t σ H Q->wpAny (model X.prog X.w) X.A (eval e X.env) (EP X o5 σ Q) X.xe s
def PT (X:Cx)(e:Expr)(t:TT):Prop:=
 ∀(o5:bS)(s:Shared)(σ:St)(H:Hp)(Q:Bool->Hp->Prop),Inv X o5 σ H s->t σ H Q->wpAny (model X.prog X.w) X.A (isTrue e X.env (eval e X.env)) (TP X o5 σ Q) X.xe s
def PW (X:Cx)(e:Expr)(t:TT):Prop:=
 ∀(whole:Sem Value)(o5:bS)(s:Shared)(σ:St)(H:Hp)(Q:Bool->Hp->Prop),Inv X o5 σ H s->t σ H Q->wpAny (model X.prog X.w) X.A (isTrue e X.env whole) (TP X o5 σ Q) X.xe s
def PW.pt {X:Cx}{t:TT}(h:PW X e t):PT X e t:=h _
def PA (X:Cx)(e:bW)(t:TA):Prop:=
 ∀(o6:Pos)(o5:bS)(s:Shared)(σ:St)(H:Hp)(Q:List V->Hp->Prop),Inv X o5 σ H s->t σ H Q->wpAny (model X.prog X.w) X.A (spliced (backTo o6 (starEach e X.env))) (AP X o5 σ Q) X.xe s
def PS (X:Cx)(S:Stmt)(t:TS):Prop:=
 ∀(o5:bS)(s:Shared)(σ:St)(H:Hp)(D:Ends),Inv X o5 σ H s->t D σ H->wpAny (model X.prog X.w) X.A (exec S X.env) (SP X o5 D) X.xe s
def yP (X:Cx)(S:cb)(t:TS):Prop:=
 ∀(o5:bS)(s:Shared)(σ:St)(H:Hp)(D:Ends),Inv X o5 σ H s->t D σ H->wpAny (model X.prog X.w) X.A (execs S X.env) (SP X o5 D) X.xe s
def zR {t:Sem α}{Q q:α->Shared->Prop}{A:Around}{s:Shared}(h:wpAny M A t Q E s)(H:∀a s,Q a s->q a s):wpAny M A t q E s:=wpAny_mono h H λ_ _ x=>x
section
variable {X:Cx}
def cG (i:Nat):TE:=λa H Q=>∃v,a[i]? =some (some v)/\Q v H
def tC (v:V):TE:=λ_ H Q=>Q v H
def ML (n:X.N[i]? =some x)(g:WW X.env.scope x)(q:(x==("__debug__":Str))=false:=by decide)(d:(x==("__classdict__":Str))=false:=by decide):PE X (.Name x o6) (cG i):=by
 intro p s t H Q I h;obtain⟨v,e,h⟩:=h;obtain⟨m,y,j⟩:=I.loc;obtain⟨u,r,l⟩:=j i x v n e g;have o:EP X p t Q u s:=⟨v,H,I,r,h⟩;rcases l with ⟨b,A⟩|⟨b,c,f,a⟩
 ·exact wpAny_Name (wpAny_loadName_local I.ok.kind b y A o) q
 ·rcases b with b|b
  ·exact wpAny_Name (wpAny_loadName_cell I.ok.kind b f a o) q
  ·exact wpAny_Name (wpAny_loadName_free I.ok.kind b f a o d) q
def cH {i j o6}:PE X (.Constant (.int i) j o6) (tC (.int i)):=λ_ _ _ H _ I h=>wpAny_Constant_int ⟨.int i,H,I.tok _,⟨_,rfl⟩,h⟩
def cI {b j o6}:PE X (.Constant (.bool b) j o6) (tC (.bl b)):=λ_ _ _ H _ I h=>Constant_bool ⟨.bl b,H,I,rfl,h⟩
def cJ {j o6}:PE X (.Constant .none j o6) (tC .non):=λ_ _ _ H _ I h=>Constant_none ⟨.non,H,I,rfl,h⟩
def cK {x j o6}:PE X (.Constant (.str x) j o6) (tC (.str x)):=λ_ _ _ H _ I h=>Calls.Constant_str ⟨.str x,H,I.tok _,⟨_,rfl⟩,h⟩
def Gl (X:Cx)(x:Str):Prop:=X.env.kindOf x=some .globalImplicit
def YR {s:Shared}{a:St}{H:Hp}(I:Inv X o5 a H s)(g:Gl X x)(b:X.mg x=some u)(h:Q u s)
  (d:(x==("__debug__":Str))=false:=by decide):wpAny (model X.prog X.w) X.A (eval (.Name x o6) X.env) Q E s:=
 Calls.Name_function_global I.ok.kind g (Calls.loadGlobal_global (by rw[I.ok.glob];exact I.mod.glob.keeps I.bk) b h) d
def Q7 {s:Shared}{a:St}{H:Hp}(I:Inv X o5 a H s)(g:Gl X x)(b:X.mg x=none)(v:bootBuiltins x=some u)(h:Q u s)
  (n:x ≠ "__name__":=by decide)(d:(x==("__debug__":Str))=false:=by decide):wpAny (model X.prog X.w) X.A (eval (.Name x o6) X.env) Q E s:=by
 obtain⟨M,e,c⟩:=I.mod.blt;exact Calls.Name_function_global I.ok.kind g (Calls.loadGlobal_builtin (by rw[I.ok.glob];exact I.mod.glob.keeps I.bk) b (by rw[I.ok.blt];exact e.keeps I.bk) ((c x n).trans v) h) d
def cL {v:V}(g:Gl X x)(a:X.mg x=some u)(r:RelV v u)(d:(x==("__debug__":Str))=false:=by decide):PE X (.Name x o6) (tC v):=
 λ_ _ _ H _ I h=>YR I g a ⟨v,H,I,r,h⟩ d
def Xp {v:V}(g:Gl X x)(b:X.mg x=none)(a:bootBuiltins x=some u)(r:RelV v u)(n:x ≠ "__name__":=by decide)(d:(x==("__debug__":Str))=false:=by decide):PE X (.Name x o6) (tC v):=
 λ_ _ _ H _ I h=>Q7 I g b a ⟨v,H,I,r,h⟩ n d
variable {a b:Expr}{ta tb:TE}
def Bc (b:Expr)(h:op≠.In)(H:op≠.NotIn):behindInMarks op b=false:=by
 have E:(op==CmpOp.In)=false:=by cases op<;>first|rfl|exact absurd rfl h
 have e:(op==CmpOp.NotIn)=false:=by cases op<;>first|rfl|exact absurd rfl H
 cases b<;>simp[behindInMarks,E,e]
def tB (t:TE):TT:=λa H Q=>t a H λx h=>∃c,x=.bl c/\Q c h
def cM {t:TE}(h:PE X e t)(g:∀b,isTrue e X.env b=(do let v <- b;standAt e.pos;holding [v] (truthy v)):=by intro _;rfl):PT X e (tB t):=by intro p s c H Q I f;refine isTrue_plain (zR (h p s c H _ I f) λv S ⟨x,j,i,r,a⟩=>?_) (g _);obtain⟨d,rfl,q⟩:=a;cases r;exact wpAny_truthy_bool ⟨j,i,q⟩
variable {tA tB':TT}{oV:bW}
def cN (t u:TT):TT:=λa H Q=>t a H λc h=>if c=true then u a h Q else Q false h
def cO (t u:TT):TT:=λa H Q=>t a H λc h=>if c=true then Q true h else u a h Q
def cP (t:TT):TT:=λa H Q=>t a H λc h=>Q (!c) h
def pw_and1 (b:PT X a tA):PW X (.BoolOp .And [a] o6) tA:=by
 intro d p s f H Q I h;refine isTrue_and (zR (b p s f H Q I h) λc S e=>?_);cases c with|true=>exact isTrue_and_nil e|false=>exact e
def pw_or1 (b:PT X a tA):PW X (.BoolOp .Or [a] o6) tA:=by
 intro d p s f H Q I h;refine isTrue_or (zR (b p s f H Q I h) λc S e=>?_);cases c with|false=>exact isTrue_or_nil e|true=>exact e
def pw_and (f:PT X a tA)(e:PW X (.BoolOp .And (b::oV) o6) tB'):PW X (.BoolOp .And (a::b::oV) o6) (cN tA tB'):=by
 intro d p s g H Q I h;refine isTrue_and (zR (f p s g H _ I h) λc S ⟨j,i,q⟩=>?_);cases c with|true=>exact e d p S g j Q i q|false=>exact⟨j,i,q⟩
def pw_or (f:PT X a tA)(e:PW X (.BoolOp .Or (b::oV) o6) tB'):PW X (.BoolOp .Or (a::b::oV) o6) (cO tA tB'):=by
 intro d p s g H Q I h;refine isTrue_or (zR (f p s g H _ I h) λc S ⟨j,i,q⟩=>?_);cases c with|true=>exact⟨j,i,q⟩|false=>exact e d p S g j Q i q
def cQ (b:PT X a tA):PT X (.UnaryOp .Not a o6) (cP tA):=by intro p s d H Q I h;exact isTrue_not (b p s d H (λc e=>Q (!c) e) I h)
def cR (t tb:TE):TE:=λa H Q=>t a H λx h=>∃c,x=.bl c/\if c=true then tb a h Q else Q (.bl false) h
def cS (t:TE):TE:=λa H Q=>t a H λx h=>∃c,x=.bl c/\Q (.bl (!c)) h
def cT {op}{t:TE}(h:PE X a t):PE X (.BoolOp op [a] o6) t:=λp s b H Q I c=>BoolOp_one (h p s b H Q I c)
def cU (e:PE X a ta)(d:PE X (.BoolOp .And (b::oV) o6) tb):PE X (.BoolOp .And (a::b::oV) o6) (cR ta tb):=by
 intro p s f H Q I h;refine BoolOp_and (zR (e p s f H _ I h) λv S ⟨x,g,i,r,q⟩=>?_);obtain⟨c,rfl,q⟩:=q;cases r;refine wpAny_truthy_bool ?_;cases c with|true=>exact d p S f g Q i q|false=>exact⟨.bl false,g,i,rfl,q⟩
def cV (b:PE X a ta):PE X (.UnaryOp .Not a o6) (cS ta):=by intro p s d H Q I h;refine UnaryOp_ (zR (b p s d H _ I h) λv S ⟨x,e,i,r,q⟩=>?_);obtain⟨c,rfl,q⟩:=q;cases r;exact not_of (wpAny_truthy_bool ⟨.bl (!c),e,i,rfl,q⟩)
def cW (t:TT)(T tb:TE):TE:=λa H Q=>t a H λc h=>if c=true then T a h Q else tb a h Q
def B9 {c:Expr}(e:PT X c tA)(g:PE X a ta)(f:PE X b tb):PE X (.IfExp c a b o6) (cW tA ta tb):=by
 intro p s j H Q I h;refine wpAny_IfExp (zR (e p s j H _ I h) λd S ⟨l,i,q⟩=>?_);cases d with|true=>exact g p S j l Q i q|false=>exact f p S j l Q i q
end
def qX (K:Frag)(H:Hp)(a:Addr)(x:List V):Prop:=
 Rd H a (.lst x)∨
  ∃(o:Obj) (o9:Array Value) (n:Nat),K.lookup a=some o/\o.cls=.type "list" /\ o.dict=none/\o.data=.seq o9 n/\o9.size<=sizeLine/\Vals x o9.toList
def qz (K:Frag)(H:Hp)(a:Addr)(x:List V):Prop:=
 Rd H a (.tup x)∨
  ∃(o:Obj) (o9:Array Value) (n:Nat),K.lookup a=some o/\(o.cls=.type "tuple" /\ o.dict=none)/\o.data=.seq o9 n/\o9.size<=sizeLine/\Vals x o9.toList
noncomputable def cX:Value->Option V
 |.none=>some .non|.bool b=>some (.bl b)|.int i _=>some (.int i)|.str x _=>some (.str x)|.bytes b _=>some (.byt b)|.float b _=>some (.flt b)|.ref a=>some (.ref a)|.type n=>some (.ty n)|_=>none
def RelV.abs {x:V}(r:RelV x u):cX u=some x:=by
 cases x with|non=>cases r;rfl|bl _=>cases r;rfl|int _=>obtain⟨t,rfl⟩:=r;rfl|str _=>obtain⟨t,rfl⟩:=r;rfl|byt _=>obtain⟨t,rfl⟩:=r;rfl|flt _=>obtain⟨t,rfl⟩:=r;rfl|ref _=>cases r;rfl|ty _=>cases r;rfl
def RelV.inj {x y:V}(r:RelV x u)(q:RelV y u):x=y:=aE (r.abs.symm.trans q.abs)
theorem Vals.inj:∀{x y:List V}{u:bQ},Vals x u->Vals y u->x=y
 |_,_,_,.nil,.nil=>rfl|_,_,_,.cons r t,.cons a t'=>by rw[r.inj a,Vals.inj t t']
section
variable {X:Cx}{σ:St}{H:Hp}{s:Shared}{xs ys:List V}
def qX.of {K:Frag}(h:H a=some (.lst xs)):qX K H a xs:=.inl (.inl h)
def qz.of {K:Frag}(h:H a=some (.tup xs)):qz K H a xs:=.inl (.inl h)
def Inv.list (I:Inv X o5 σ H s)(h:qX X.K H a xs):∃i:bQ,Vals xs i/\PlainL s.heap a i.toArray/\xs.length<=sizeLine:=by
 rcases h with h|⟨o,i,n,c,d,hd,b,f,r⟩
 ·obtain⟨z,i,n,r,e⟩:=h.ok I.hok
  exact⟨i,r,⟨_,n,e,rfl,rfl,rfl⟩,z⟩
 ·refine⟨i.toList,r,⟨o,n,I.kIn a o c,d,hd,by simpa using b⟩,?_⟩
  have e:=r.length;simp only[length_toList]at e;lia
def Inv.tuple (I:Inv X o5 σ H s)(h:qz X.K H a xs):∃i:bQ,Vals xs i/\IsTup s.heap a i.toArray/\xs.length<=sizeLine:=by
 rcases h with h|⟨o,i,n,c,d,b,f,r⟩
 ·obtain⟨z,i,r,p⟩:=h.ok I.hok
  exact⟨i,r,p.tup,z⟩
 ·refine⟨i.toList,r,⟨o,I.kIn a o c,d.1,n,by simpa using b⟩,?_⟩
  have e:=r.length;simp only[length_toList]at e;lia
def Inv.list_inj (I:Inv X o5 σ H s)(h:qX X.K H a xs)(g:qX X.K H a ys):xs=ys:=by
 obtain⟨i,r,⟨o,n,e,_,_,d⟩,_⟩:=I.list h;obtain⟨c,b,⟨j,N,E,_,_,f⟩,_⟩:=I.list g;rw[e]at E;cases E;rw[d]at f;injection f with D _
 have:i=c:=by simpa using congrArg Array.toList D
 subst this;exact r.inj b
def Inv.tupleN (I:Inv X o5 σ H s)(h:qz X.K H a xs):∃ob,s.heap.get? a=some ob/\ob.dict=none:=by
 rcases h with h|⟨o,i,n,b,d,g,f,r⟩
 ·obtain⟨z,i,r,o,e,c,_⟩:=h.ok I.hok
  exact⟨o,e,c.2⟩
 ·exact⟨o,I.kIn a o b,d.2⟩
def Inv.tuple_inj (I:Inv X o5 σ H s)(h:qz X.K H a xs)(g:qz X.K H a ys):xs=ys:=by
 obtain⟨i,r,⟨o,e,_,n,d⟩,_⟩:=I.tuple h;obtain⟨c,b,⟨j,E,_,N,f⟩,_⟩:=I.tuple g;rw[e]at E;cases E;rw[d]at f;injection f with D _
 have:i=c:=by simpa using congrArg Array.toList D
 subst this;exact r.inj b
end
noncomputable abbrev Cx.wish (X:Cx)(E:bV):Cx:={ X with xe:=E }
abbrev Cx.nox (X:Cx):Cx:=X.wish λ_ _=>False
theorem Cx.Ok.wish {X:Cx}(ok:X.Ok)(E:bV):(X.wish E).Ok:=
 ⟨ok.mod,ok.kind,ok.glob,ok.blt,ok.above,ok.inj,ok.has,ok.cab,ok.hd,ok.frames,ok.stk,ok.exf,ok.bs,ok.bsz,ok.noex,ok.exfs,ok.funs,ok.frf⟩
def Cx.Ok.unwish {X:Cx}(ok:(X.wish E).Ok):X.Ok:=
 ⟨ok.mod,ok.kind,ok.glob,ok.blt,ok.above,ok.inj,ok.has,ok.cab,ok.hd,ok.frames,ok.stk,ok.exf,ok.bs,ok.bsz,ok.noex,ok.exfs,ok.funs,ok.frf⟩
section
variable {X:Cx}{σ:St}{H:Hp}{s:Shared}
theorem Inv.wish (I:Inv X o5 σ H s)(E:bV):Inv (X.wish E) o5 σ H s:=⟨I.ok.wish E,I.os,I.bare,I.base,I.loc,I.cell,I.free,I.freeC,I.pin,I.hok,I.len⟩
theorem Inv.unwish (I:Inv (X.wish E) o5 σ H s):Inv X o5 σ H s:=⟨I.ok.unwish,I.os,I.bare,I.base,I.loc,I.cell,I.free,I.freeC,I.pin,I.hok,I.len⟩
theorem SP.unwish {D:Ends}{f:Flow}(h:SP (X.wish E) o5 D f s'):SP X o5 D f s':=by
 cases f with|next=>obtain⟨a,H,I,q⟩:=h;exact⟨a,H,I.unwish,q⟩|brk=>obtain⟨a,H,I,q⟩:=h;exact⟨a,H,I.unwish,q⟩|cont=>obtain⟨a,H,I,q⟩:=h;exact⟨a,H,I.unwish,q⟩|ret u=>obtain⟨v,a,H,I,r,q⟩:=h;exact⟨v,a,H,I.unwish,r,q⟩
theorem PT.nox {t:TT}(h:PT X.nox e t):PT X e t:=λp s b H Q I c=>
 wpAny_mono (h p s b H Q (I.wish _) c) (λ_ _ ⟨a,i,q⟩=>⟨a,i.unwish,q⟩) λ_ _ z=>False.elim z
theorem yP.nox {S:cb}{t:TS}(h:yP X.nox S t):yP X S t:=λp s a H D I b=>
 wpAny_mono (h p s a H D (I.wish _) b) (λ_ _ q=>q.unwish) λ_ _ z=>False.elim z
end
section
variable {X:Cx}{st:Stmt}{oV:cb}{t u:TS}{te:TE}
def cY:TS:=λD a H=>D.nx a H
def cZ (t u:TS):TS:=λD a H=>t { D with nx:=u D } a H
def c3:yP X [] cY:=λ_ _ a H _ I h=>wpAny_execs_nil ⟨a,H,I,h⟩
def CY (e:PS X st t)(d:yP X oV u):yP X (st::oV) (cZ t u):=by
 intro p s c H D I h;refine wpAny_execs_cons (zR (e p s c H { D with nx:=u D } I h) λf S q=>?_)
 cases f with
 |next=>
  obtain⟨a,b,i,q⟩:=q;exact d p S a b D i q
 |ret v=>exact q|brk=>exact q|cont=>exact q
def Inv.quiet {a:St}{H:Hp}{s:Shared}(I:Inv X o5 a H s):interactive X.env=false:=by simp[interactive,I.ok.kind]
def c4 (t:TE):TS:=λD a H=>t a H λ_ h=>D.nx a h
def c6 (c:PE X e te)(a:swapsWith e none o6.line X.env=pure false:=by rfl):PS X (.Expr e o6) (c4 te):=by intro p s b H D I h;exact wpAny_Expr_any (zR (c p s b H _ I h) λv S ⟨x,d,i,r,q⟩=>⟨b,d,i,q⟩) I.quiet a
def c7 (t:TE):TS:=λD a H=>t a H D.rt
def c8 (b:PE X e te):PS X (.Return (some e) o6) (c7 te):=by intro p s a H D I h;exact wpAny_Return_some (zR (b p s a H _ I h) λv S ⟨x,c,i,r,q⟩=>⟨x,a,c,i,r,q⟩)
def c9 (c:TT)(t u:TS):TS:=λD a H=>c a H λb h=>if b=true then t D a h else u D a h
def da {c:Expr}{a b:cb}{T:TT}(e:PT X c T)(g:yP X a t)(f:yP X b u):PS X (.If c a b o6) (c9 T t u):=by
 intro p s j H D I h;refine wpAny_If (zR (e p s j H _ I h) λd S ⟨l,i,q⟩=>?_);cases d with|true=>exact g p S j l D i q|false=>exact f p S j l D i q
end
abbrev TG:=V->St->Hp->(St->Hp->Prop)->Prop
abbrev Ye:=List V->St->Hp->(St->Hp->Prop)->Prop
def PG (X:Cx)(T:Expr)(t:TG):Prop:=
 ∀(o5:bS)(s:Shared)(σ:St)(H:Hp)(v:V)(u:Value)(Q:St->Hp->Prop),Inv X o5 σ H s->RelV v u->t v σ H Q->
  wpAny (model X.prog X.w) X.A (assign T X.env u) (λ_ S=>∃a h,Inv X o5 a h S/\Q a h) X.xe s
def VJ (X:Cx)(T:bW)(t:Ye):Prop:=
 ∀(o5:bS)(s:Shared)(σ:St)(H:Hp)(vs:List V)(us:bQ)(Q:St->Hp->Prop),Inv X o5 σ H s->Vals vs us->t vs σ H Q->
  wpAny (model X.prog X.w) X.A (assignInOrder ((assignEach T X.env).map (·.2)) us) (λ_ S=>∃a h,Inv X o5 a h S/\Q a h) X.xe s
abbrev J2:=V->V->V->Hp->(Hp->Prop)->Prop
def Vl (X:Cx)(t:J2):Prop:=
 ∀(o5:bS)(s:Shared)(σ:St)(H:Hp)(o i v:V)(a I u:Value)(Q:Hp->Prop),Inv X o5 σ H s->RelV o a->RelV i I->RelV v u->t o i v H Q->
  wpAny (model X.prog X.w) X.A (setItem a I u) (λ_ S=>∃h,Inv X o5 σ h S/\Q h) X.xe s
abbrev VD:=V->V->Hp->VK->Prop
def Ib (X:Cx)(o:Operator)(t:VD):Prop:=
 ∀(o5:bS)(s:Shared)(σ:St)(H:Hp)(x y:V)(v u:Value)(Q:VK),Inv X o5 σ H s->RelV x v->RelV y u->t x y H Q->
  wpAny (model X.prog X.w) X.A (inplaceOp o v u) (EP X o5 σ Q) X.xe s
section
variable {X:Cx}
def X2 (i:Nat):TG:=λv a H Q=>Q (a.set i (some v)) H
def YU (c:X.N.Nodup)(b:X.N[i]? =some x)(a:Loc X.env.scope x)(f:X.fn x=true∨X.env.scope.names.lookup x=some .local:=by first|exact .inl rfl|exact .inr rfl|assumption):PG X (.Name x o6) (X2 i):=by intro p s e H v u Q I r h;exact wpAny_assign_Name (YG I c b a r (λS d=>⟨_,H,d,h⟩) f)
def dc:Ye:=λv a H Q=>v=[]/\Q a H
def de (t:TG)(u:Ye):Ye:=λc b H Q=>∃v r,c=v::r/\t v b H λa h=>u r a h Q
def TB:VJ X [] dc:=by intro p s a H v u Q I r h;obtain⟨e,h⟩:=h;subst e;cases r;exact assignInOrder_nil ⟨a,H,I,h⟩
def YE {E:bW}{t:TG}{u:Ye}(l:PG X e t)(j:VJ X E u)
  (c:(assignEach (e::E) X.env).map (·.2)=assign e X.env::(assignEach E X.env).map (·.2):=by rfl):VJ X (e::E) (de t u):=by
 intro p s g H o U Q I r h;obtain⟨v,f,d,h⟩:=h;subst d;cases r with
 |cons r b=>
  rw[c];refine assignInOrder_cons (zR (l p s g H _ _ _ I r h) λ_ S ⟨a,n,i,q⟩=>?_);exact j p S a n _ _ Q i b q
def gT (K:Frag)(n:Nat)(t:Ye):TG:=λv b H Q=>∃a x,v=.ref a/\qz K H a x/\x.length=n/\t x b H Q
def TR {E:bW}{k:Nat}{t:Ye}(f:X.calm=true)(h:VJ X E t)
  (D:(assignEach E X.env).length=n:=by rfl)(c:(assignEach E X.env).findIdx? (·.1)=none:=by rfl):PG X (.Tuple E k o6) (gT X.K n t):=by
 intro P s A H v u Q I r y;obtain⟨a,B,g,q,l,y⟩:=y;subst g;cases r;obtain⟨i,d,C,p⟩:=I.tuple q;refine assign_Tuple_tuple (I.ok.hd f) C (by simp[D,<- l,d.length]) c λJ x=>?_
 have j:Inv X P A H { s with heap:=J }:=I.kept (t':=s.toks) λb o e=>x b o (aO (aM e)) e
 exact h P _ A H B _ Q j (by simpa using d) y
def gX (to T:TE)(t:J2):TG:=λv b H Q=>to b H λo c=>T b c λi a=>t o i v a λh=>Q b h
def df {o i:Expr}{to T:TE}{t:J2}(f:PE X o to)(g:PE X i T)(e:Vl X t)
  (j:∀v,assign (.Subscript o i o6) X.env v=(do
   let ov <- holding [v] (eval o X.env)
   let iv <- holding [v,ov] (eval i X.env)
   standAt o6
   holding [v,ov,iv] (setItem ov iv v)
   release [v,ov,iv] []):=by intro _;rfl):PG X (.Subscript o i o6) (gX to T t):=by
 intro P s C H v u Q I r h;rw[j];refine cf (wpAny_holding (zR (f P s C H _ I h) λov D ⟨x,E,p,b,d⟩=>?_));refine cf (wpAny_holding (zR (g P D C E _ p d) λiv S ⟨y,B,n,a,c⟩=>?_));refine cf (wpAny_standAt (cf (wpAny_holding (zR (e P S C B x y v ov iv u _ n b a r c) λ_ J ⟨A,l,q⟩=>?_))));exact wpAny_release ⟨C,A,l,q⟩
def Vt (t:TE)(g:TG):TS:=λD a H=>t a H λx h=>g x a h D.nx
def Mz {t:TE}{g:TG}(f:PE X e t)(b:PG X tg g)(a:swapsWithSole [tg] e o6.line X.env=pure false:=by rfl)(d:swappedStores [tg] e X.env=pure none:=by rfl)
  (j:(assignEach [tg] X.env).map (·.2)=[assign tg X.env]:=by rfl):PS X (.Assign [tg] e o6) (Vt t g):=by
 intro p s c H D I h;refine wpAny_Assign_stores (zR (f p s c H _ I h) λv S ⟨x,l,i,r,Q⟩=>?_) a d;rw[j];exact zR (b p S c l x v _ i r Q) λ_ n q=>q
def dh {t:TE}{p:Pos}(d:X.N.Nodup)(c:X.N[i]? =some x)(a:Loc X.env.scope x)(n:PE X e t)(b:swapsWith e (some (.Name x p)) o6.line X.env=pure false:=by rfl)(l:X.fn x=true∨X.env.scope.names.lookup x=some .local:=by first|exact .inl rfl|exact .inr rfl|assumption):
  PS X (.Assign [.Name x p] e o6) (Vt t (X2 i)):=by
 intro P s j H D I h;refine wpAny_Assign_Name (zR (n P s j H _ I h) λv u ⟨y,o,g,r,q⟩=>?_) b;exact YG g d c a r (λS f=>⟨_,o,f,q⟩) l
def di (i j:Nat)(t:TA):TS:=λD a H=>t a H λb h=>∃v w,b=[v,w]/\D.nx ((a.set i (some v)).set j (some w)) h
def dj {j:Nat}{y:Str}{a b:Expr}{t:TA}{P py pt:Pos}{kt k2 pt2}(S:X.calm=true)(l:X.N.Nodup)(M:X.N[i]? =some x)(L:X.N[j]? =some y)(d:i≠j)
  (g:X.env.scope.names.lookup x=some .local)(f:X.env.scope.names.lookup y=some .local)(T:PA X [a,b] t)
  (hw:swappedStores [.Tuple [.Name x P,.Name y py] kt pt] (.Tuple [a,b] k2 pt2) X.env=pure (some [x,y]))
  (K:swapsWithSole [.Tuple [.Name x P,.Name y py] kt pt] (.Tuple [a,b] k2 pt2) o6.line X.env=pure false:=by rfl):
  PS X (.Assign [.Tuple [.Name x P,.Name y py] kt pt] (.Tuple [a,b] k2 pt2) o6) (di i j t):=by
 intro o5 s σ H D I h;rw[exec_Assign_arm];refine cf (wpAny_standAt ?_);rw[K];refine cf (cg ?_);rw[aj (by decide)]
 refine cf (Tuple_ (zR (T _ o5 s σ H _ I h) λus s1 ⟨vs,H1,I1,C,Q⟩=>?_));obtain⟨v,w,Y,Q⟩:=Q;subst Y;obtain⟨U,u,rfl,B,r⟩:∃U u,us=[U,u]/\RelV v U/\RelV w u:=by
  cases C with
  |cons p q=>
   cases q with
   |cons J E=>
    cases E;exact⟨_,_,rfl,p,J⟩
 refine wpAny_newObj_type ?_ (by show 2<=sizeLine;decide)
 have I2:Inv X o5 σ H1 { s1 with heap:=s1.heap.push { cls:=.type "tuple",data:=.seq [U,u].toArray } }:=I1.kept (t':=s1.toks) λb o e=>af _ e
 rw[hw];refine cf (cg ?_);show wpAny (model X.prog X.w) X.A (do rule "assign.swapped-stores";let items <- unpackItems (.ref s1.heap.objs.size) 2 none;assignInOrder [λv=>bindName X.env y v,λv=>bindName X.env x v] items.reverse;pure Flow.next) _ _ _
 refine cf (wpAny_rule (cf (unpackItems_tuple (items:=#[U,u]) (I.ok.hd S) (IsTup.new s1.heap _) λh' c=>?_)));have I3:=I2.kept (h':=h') (t':=s1.toks) λb o e=>c b o (aO (aM e)) e;show wpAny _ _ (assignInOrder [λv=>bindName X.env y v,λv=>bindName X.env x v] [u,U] >>= λ_=>pure Flow.next) _ _ _;refine cf (assignInOrder_cons (wpAny_bindName (YG I3 l L (.inl f) r (λs2 Z=>?_) (.inr f))));refine assignInOrder_cons (wpAny_bindName (YG Z l M (.inl g) B (λs3 n=>assignInOrder_nil (cg ?_)) (.inr g)));rw[List.set_comm _ _ (Ne.symm d)]at n;exact⟨_,H1,n,Q⟩
def dk (to g e:TE)(T:V->V->Hp->VK->Prop)(p:VD)(t:J2):TS:=λD f H=>to f H λo j=>g f j λi d=>T o i d λx c=>e f c λy b=>p x y b λz a=>t o i z a λh=>D.nx f h
def LQ (X:Cx)(t:V->V->Hp->VK->Prop):Prop:=
 ∀(o5:bS)(s:Shared)(σ:St)(H:Hp)(o i:V)(v I:Value)(Q:VK),Inv X o5 σ H s->RelV o v->RelV i I->t o i H Q->
  wpAny (model X.prog X.w) X.A (getItem v I) (EP X o5 σ Q) X.xe s
def dm {o i:Expr}{to ti c:TE}{T:V->V->Hp->VK->Prop}{p:VD}{t:J2}{op:Operator}(B:PE X o to)(C:PE X i ti)(E:LQ X T)(he:PE X e c)(A:Ib X op p)(y:Vl X t)
  (J:∀a b new,augStore i a b new=(do holding [new,a,b] (setItem a b new);release [new,a,b] [];pure .next):=by intros;rfl):PS X (.AugAssign (.Subscript o i oQ) op e o6) (dk to ti c T p t):=by
 intro o5 s σ H D I h;refine wpAny_AugAssign_SubscriptAny (zR (B o5 s σ H _ I h) λa s1 ⟨x1,H1,S,d,x⟩=>?_) J;refine zR (C o5 s1 σ H1 _ S x) λb s2 ⟨x2,H2,P,r,u⟩=>?_;refine zR (E o5 s2 σ H2 x1 x2 a b _ P d r u) λold s3 ⟨x3,H3,N,j,n⟩=>?_;refine zR (he o5 s3 σ H3 _ N n) λv s4 ⟨x4,Z,M,g,l⟩=>?_;refine zR (A o5 s4 σ Z x3 x4 old v _ M j g l) λnew s5 ⟨x5,Y,L,f,Q⟩=>?_;exact zR (y o5 s5 σ Y x1 x2 x5 a b new _ L d r f Q) λ_ s6 ⟨U,K,q⟩=>⟨σ,U,K,q⟩
def dr (f:Int->Int->Int):VD:=λx y H Q=>∃i j,x=.int i/\y=.int j/\Q (.int (f i j)) H
def dt:Ib X .Add (dr λi j=>i+j):=by intro p s b H x y v u Q I a r h;obtain⟨i,j,E,e,q⟩:=h;subst E;subst e;obtain⟨t,rfl⟩:=a;obtain⟨T,rfl⟩:=r;exact iadd_int ⟨.int _,H,I.tok _,⟨_,rfl⟩,q⟩
def du (c:TT)(tb:TS):TS:=λD d H=>∃W:Nat->St->Hp->Prop,(∃m,W m d H)/\∀m d H,W m d H->
 c d H λb e=>if b=true then ∃N:St->Hp->Prop,(∀a h,N a h->∃M,M<m/\W M a h)/\tb { D with nx:=N,ct:=N,bk:=D.nx } d e else D.nx d e
def BC {c:Expr}{t:TT}{tb:TS}(p:PassesOwn (model X.prog X.w) X.A X.env X.xe)(C:PT X c t)(E:yP X body tb):PS X (.While c body [] o6) (du t tb):=by
 intro P s S H D I h;obtain⟨W,⟨Z,B⟩,turn⟩:=h;refine wpAny_While (codeAny_whileLoop (λn Y=>∃e x,Inv X P e x Y/\W n e x) ?_ Z ⟨S,H,I,B⟩)
 rintro n U ⟨d,L,J,y⟩
 refine wpAny_passesOwn p (zR (C P U d L _ J (turn n d L y)) λb T ⟨u,r,Q⟩=>?_);cases b with
 |true=>
  obtain⟨N,o,Q⟩:=Q;rw[ai rfl];refine wpAny_passesOwn p (zR (E P T d u _ r Q) λf s3 q=>?_);cases f with
  |next=>
   obtain⟨a,g,l,j⟩:=q;obtain⟨M,K,i⟩:=o a g j;exact⟨M,K,a,g,l,i⟩
  |cont=>
   obtain⟨a,g,l,j⟩:=q;obtain⟨M,K,i⟩:=o a g j;exact⟨M,K,a,g,l,i⟩
  |brk=>exact q|ret v=>exact q
 |false=>
  rw[aj aH];exact wpAny_execs_nil ⟨d,u,r,Q⟩
end
structure It where
 go:Nat->Hp->Prop
 yld:Nat->Hp->V->Hp->Prop
 stop:Nat->Hp->Prop
def wL (X:Cx)(P:bS)(H:Hp)(b:Addr):Prop:=
 H b=none/\b≠X.env.locals/\b∉X.fs/\(b∈X.ex∨X.s0.heap.objs.size<=b)/\(∀x c,X.env.cells.lookup x=some c->c≠b)/\∀p∈X.pn++P,p.1≠b
def Inv.fpOk {X:Cx}{f:St}{H a:Hp}{s:Shared}(I:Inv X o5 f H s)(h:s.heap.objs.size<=b)(n:a b=none):wL X o5 a b:=by
 refine⟨n,ne_of_gt (aK I.lt h),I.nofs h,.inr (aZ I.sz h),λx c e z=>?_,λp d z=>?_⟩
 ·obtain⟨v,q⟩:=I.cell x c e
  exact absurd (aK q.lt (by rw[z];exact h)) (aT _)
 ·exact absurd (aK (aM (I.pin p d).1) (by rw[z];exact h)) (aT _)
structure Turn (P:Program)(w:World)(K:Frag)(tg:Expr)(J:It)(fp:bR)(it:Addr)(tn:Nat->Heap->Prop):Prop where
 mem:it∈fp
 obj:∀i h,tn i h->∀b∈fp,∃o,h.get? b=some o/\∀v,o.data≠.cell v
 keep:∀i h h',tn i h->(∀b∈fp,∀o,h.get? b=some o->h'.get? b=some o)->tn i h'
 item:∀(X:Cx),X.prog=P->X.w=w->X.K=K->X.calm=true->∀(i:Nat)(o5:bS)(s:Shared)(σ:St)(H:Hp)(E:bV),Inv X o5 σ H s->(∀b∈fp,wL X o5 H b)->tn i s.heap->J.go i H->
  wpAny (model P w) X.A (pyNext (.ref it)) (λr s1=>∃u,r=some u/\
   wpAny (model P w) X.A (letOwnedTupleGo tg (.ref it) u) (λ_ s2=>∃x H',Inv X o5 σ H' s2/\RelV x u/\J.yld i H x H'/\tn (i+1) s2.heap/\∀b∈fp,H' b=none) E s1) E s
 done:∀(X:Cx),X.prog=P->X.w=w->X.K=K->X.calm=true->∀(i:Nat)(o5:bS)(s:Shared)(σ:St)(H:Hp)(E:bV),Inv X o5 σ H s->(∀b∈fp,wL X o5 H b)->tn i s.heap->J.stop i H->
  wpAny (model P w) X.A (pyNext (.ref it)) (λr s1=>r=none/\Inv X o5 σ H s1) E s
 self:∀(A:Around)(i:Nat)(s:Shared)(Q:bV)(E:bV),tn i s.heap->Q (.ref it) s->wpAny (model P w) A (pyIter (.ref it)) Q E s
abbrev TI:=St->Hp->(It->Hp->Prop)->Prop
inductive Ij (X:Cx)(o5:bS)(σ:St)(tg:Expr)(R:It->Hp->Prop)(itv:Value)(s2:Shared):Prop
 |mk (it:Addr) (fp:bR) (tn:Nat->Heap->Prop) (J:It) (H':Hp) (e:itv=.ref it) (I:Inv X o5 σ H' s2) (T:Turn X.prog X.w X.K tg J fp it tn) (t0:tn 0 s2.heap) (f:(∀b∈fp,wL X o5 H' b)) (q:R J H')
def PI (X:Cx)(t I:Expr)(i:TI):Prop:=
 ∀(o5:bS)(s:Shared)(σ:St)(H:Hp)(R:It->Hp->Prop),Inv X o5 σ H s->i σ H R->
  wpAny (model X.prog X.w) X.A (eval I X.env) (λv S=>wpAny (model X.prog X.w) X.A (pyIter v) (Ij X o5 σ t R) X.xe S) X.xe s
def Rg {A:Around}{s:Shared}{i:Addr}{o:Obj}{n:String}{v:Array Value}{Q:Unit->Shared->Prop}(a:s.heap.get? i=some o)(c:o.cls=.type n)(d:o.data=.fields v)
  (b:["enumerate","zip","dict_itemiterator","dict_reverseitemiterator","odict_iterator","itertools.zip_longest","itertools.pairwise"].contains n=false)(H:Q () s):wpAny M A (letOwnedTupleGo tg (.ref i) u) Q E s:=by
 unfold letOwnedTupleGo;cases tg<;>first
  |exact cg H
  |(cases u<;>first
    |exact cg H
    |(
      refine cf (wpAny_load a ?_);rw[c,d];show wpAny M A (if (["enumerate","zip","dict_itemiterator","dict_reverseitemiterator","odict_iterator","itertools.zip_longest","itertools.pairwise"].contains n&&v[0]?==some (rawInt _))=true then _ else _) Q E s;rw[aj (by intro h;rw[b,Bool.false_and]at h;cases h)]
      exact cg H))
noncomputable def Ip (K:Frag)(a:Addr):It:=
 ⟨λi H=>∃X x,qX K H a X/\X[i]? =some x,λi H x h=>h=H/\∀X,qX K H a X->X[i]? =some x,λi H=>∃X,qX K H a X/\X.length<=i⟩
noncomputable def Iq (K:Frag)(a:Addr):It:=
 ⟨λi H=>∃X x,qz K H a X/\X[i]? =some x,λi H x h=>h=H/\∀X,qz K H a X->X[i]? =some x,λi H=>∃X,qz K H a X/\X.length<=i⟩
noncomputable def WV (l:Int)(n:Nat):It:=⟨λi _=>i<n,λi H x h=>h=H/\x=.int (l+i),λi _=>n<=i⟩
def D3 {w:World}{K:Frag}(a Z:Addr):Turn P w K tg (Ip K a) [Z] Z (λi h=>h.IsListIter Z a i) where
 mem:=by simp
 obj:=λi h U b f=>by
  have e:b=Z:=by simpa using f
  subst e;obtain⟨o,e,c,d⟩:=U;exact⟨o,e,λv z=>by rw[d]at z;cases z⟩
 keep:=λi h h' U k=>U.at λo e=>k Z (by simp) o e
 item:=by
  intro X n hw t B i Y s σ H E I hf U l;subst n hw t;obtain⟨xs,x,q,j⟩:=l;obtain⟨g,r,p,J⟩:=I.list q;obtain⟨u,M,D⟩:=r.get j;obtain⟨f0,f1,f2,A,f4,y⟩:=hf Z (by simp)
  refine wpAny_pyNext_list_item U p.isList (x:=u) (by simpa using M) λh' S C=>?_
  have Q:Inv X Y σ H { s with heap:=h' }:=I.turned (t':=s.toks) (λb o f e=>(C.2 b f).trans e) f0 f1 A f4 y
  obtain⟨o,e,c,d⟩:=id S;exact⟨u,rfl,Rg (s:={ s with heap:=h' }) e c d (by decide) ⟨x,H,Q,D,⟨rfl,λys L=>by rw[I.list_inj L q];exact j⟩,S,λb f=>(hf b f).1⟩⟩
 done:=by
  intro X n hw t B i Y s σ H E I hf U l;subst n hw t;obtain⟨xs,q,j⟩:=l;obtain⟨g,r,p,J⟩:=I.list q;obtain⟨f0,f1,f2,A,f4,y⟩:=hf Z (by simp)
  have T:=r.length;exact wpAny_pyNext_list_end (I.ok.hd B) U p.isList (by simp;lia) λh' N=>⟨rfl,I.turned (t':=s.toks) (λb o f e=>N b o f e) f0 f1 A f4 y⟩
 self:=λ_ _ _ _ _ U h=>wpAny_pyIter_listiter U h
def EM {w:World}{K:Frag}(a Z:Addr):Turn P w K tg (Iq K a) [Z] Z (λi h=>h.IsTupleIter Z a i) where
 mem:=by simp
 obj:=λi h U b g=>by
  have e:b=Z:=by simpa using g
  subst e;obtain⟨o,e,c,d⟩:=U;exact⟨o,e,λv z=>by rw[d]at z;cases z⟩
 keep:=λi h h' U k=>U.at λo e=>k Z (by simp) o e
 item:=by
  intro X n hw t B i Y s σ H E I hf U l;subst n hw t;obtain⟨xs,x,q,j⟩:=l;obtain⟨f,r,p,J⟩:=I.tuple q;obtain⟨u,M,D⟩:=r.get j;obtain⟨f0,f1,f2,A,f4,y⟩:=hf Z (by simp)
  refine wpAny_pyNext_tuple_item U (show s.heap.IsTuple a f.toArray from p) (x:=u) (by simpa using M) λh' S C=>?_
  have Q:Inv X Y σ H { s with heap:=h' }:=I.turned (t':=s.toks) (λb o g e=>(C.2 b g).trans e) f0 f1 A f4 y
  obtain⟨o,e,c,d⟩:=id S;exact⟨u,rfl,Rg (s:={ s with heap:=h' }) e c d (by decide) ⟨x,H,Q,D,⟨rfl,λys L=>by rw[I.tuple_inj L q];exact j⟩,S,λb g=>(hf b g).1⟩⟩
 done:=by
  intro X n hw t B i Y s σ H E I hf U l;subst n hw t;obtain⟨xs,q,j⟩:=l;obtain⟨f,r,p,J⟩:=I.tuple q;obtain⟨f0,f1,f2,A,f4,y⟩:=hf Z (by simp)
  have T:=r.length;exact wpAny_pyNext_tuple_end (I.ok.hd B) U (show s.heap.IsTuple a f.toArray from p) (by simp;lia) λh' N=>⟨rfl,I.turned (t':=s.toks) (λb o g e=>N b o g e) f0 f1 A f4 y⟩
 self:=λ_ _ _ _ _ U h=>wpAny_pyIter_tupleiter U h
def EG {w:World}{K:Frag}(y:Addr)(L:Int)(n:Nat):Turn P w K tg (WV L n) [y] y (λi h=>IsRangeIter h y (L+(i:Nat) * 1) ((n:Int)-(i:Nat)) 1) where
 mem:=by simp
 obj:=λi h u b a=>by
  have e:b=y:=by simpa using a
  subst e;exact⟨_,u,λv z=>by have Z:Data.fields _=Data.cell v:=z;cases Z⟩
 keep:=λi h B u k=>k y (by simp) _ u
 item:=by
  intro X d C f c i x s N H E I A u g;subst d C f;obtain⟨M,J,U,l,D,j⟩:=A y (by simp)
  have W:=Walks.range (prog:=X.prog) (w:=X.w) (I.ok.hd c) y L 1 n;refine W.item i s _ _ g u λv B T p S Q=>?_;obtain⟨t,rfl⟩:=p;have r:Inv X x N H { s with heap:=B,toks:=T }:=I.turned (λb o a e=>Q b o (by simpa using a) e) M J l D j
  refine⟨_,rfl,Rg (s:={ s with heap:=B,toks:=T }) (n := "range_iterator") S rfl rfl (by decide) ⟨.int (L+i),H,r,⟨t,?_⟩,⟨rfl,rfl⟩,S,λb a=>(A b a).1⟩⟩
  rw[Int.mul_one]
 done:=by
  intro X d C f c i x s N H E I A u g;subst d C f;obtain⟨M,J,U,l,D,j⟩:=A y (by simp)
  exact wpAny_pyNext_range_end (I.ok.hd c) u (by have:n<=i:=g;lia) λB q=>⟨rfl,I.turned (t':=s.toks) (λb o a e=>q b o a e) M J l D j⟩
 self:=λ_ _ _ _ _ u h=>wpAny_pyIter_rangeiter u h
section
variable {X:Cx}
def O5 {j:St}{H:Hp}{s:Shared}{R:It->Hp->Prop}{l h:Int}{t u v:Tok}{T:Nat}(I:Inv X o5 j H s)(p:-(2 ^ 62)<=l)(n:l<2 ^ 62)(d:-(2 ^ 62)<=h)(c:h<2 ^ 62)
  (q:R (WV l (h-l).toNat) H):wpAny (model X.prog X.w) X.A (pyIter (.ref s.heap.objs.size)) (Ij X o5 j tg R) E { s with heap:=s.heap.push { cls:=.type "range",data:=.fields #[.int l t,.int h u,.int 1 v] },toks:=T }:=by
 refine wpAny_pyIter_range (IsRange.new ..) (small_one p n d c) ?_;have i:Inv X o5 j H { s with heap:=s.heap.push { cls:=.type "range",data:=.fields #[.int l t,.int h u,.int 1 v] },toks:=T }:=I.kept λb o e=>af _ e
 refine⟨(s.heap.push { cls:=.type "range",data:=.fields #[.int l t,.int h u,.int 1 v] }).objs.size,[(s.heap.push { cls:=.type "range",data:=.fields #[.int l t,.int h u,.int 1 v] }).objs.size],_,_,H,rfl,
  i.kept (t':=T) λb o e=>af _ e,EG _ l (h-l).toNat,?_,λb a=>?_,q⟩
 ·have g:l+((0:Nat):Int) * 1=l:=by simp
  have f:(((h-l).toNat:Nat):Int)-((0:Nat):Int)=Builtin.Range.rangeSize l h 1:=by rw[rangeSize_one];split<;>lia
  show IsRangeIter _ _ (l+((0:Nat):Int) * 1) ((((h-l).toNat:Nat):Int)-((0:Nat):Int)) 1;rw[g,f];exact aC _ rfl
 ·have e:b=(s.heap.push { cls:=.type "range",data:=.fields #[.int l t,.int h u,.int 1 v] }).objs.size:=by simpa using a
  subst e;exact i.fpOk (aq _) (i.hok.fresh (aq _))
def dv (t:TA):TI:=λa H R=>t a H λv h=>∃j:Int,v=[.int j]/\-(2 ^ 62)<=j/\j<2 ^ 62/\R (WV 0 j.toNat) h
def dw (t:TA):TI:=λa H R=>t a H λv h=>∃i j:Int,v=[.int i,.int j]/\(-(2 ^ 62)<=i/\i<2 ^ 62/\-(2 ^ 62)<=j/\j<2 ^ 62)/\R (WV i (j-i).toNat) h
def DN {a:Expr}{T:TA}(g:Gl X "range")(o:X.mg "range"=none)(i:PA X [a] T)(f:starEach [a] X.env=[(false,eval a X.env)]:=by rfl):PI X tg (.Call (.Name "range" p) [a] [] o6) (dv T):=by
 intro P s n H R I h;refine Call_ (Q7 I g o boot_range (PyProof.Rows.callWith_type1 (zR (i o6 P s n H _ I h) λu S ⟨v,x,l,c,Q⟩=>?_) f rfl));obtain⟨j,e,Q,d,q⟩:=Q;subst e;cases c with
 |cons r b=>
  cases b;obtain⟨t,rfl⟩:=r;exact call_range_1 (O5 l (by lia) (by lia) Q d (by simpa using q))
def D7 {a b:Expr}{T:TA}(v:Gl X "range")(B:X.mg "range"=none)(x:PA X [a,b] T)(u:starEach [a,b] X.env=[(false,eval a X.env),(false,eval b X.env)]:=by rfl)(c:starEach [b] X.env=[(false,eval b X.env)]:=by rfl):
  PI X tg (.Call (.Name "range" p) [a,b] [] o6) (dw T):=by
 intro P s A H R I h;refine Call_ (Q7 I v B boot_range (PyProof.Rows.callWith_type1 (zR (x o6 P s A H _ I h) λU S ⟨C,E,y,f,Q⟩=>?_) (by rw[u,c]) (by rw[c];rfl)))
 obtain⟨i,j,e,⟨Q,o,n,l⟩,q⟩:=Q;subst e;cases f with
 |cons r d=>
  cases d with
  |cons g d=>
   cases d;obtain⟨t,rfl⟩:=r;obtain⟨D,rfl⟩:=g;exact call_range_2 (O5 y Q o n l q)
def dy (c:TI)(g:TG)(tb:TS):TS:=λD e H=>c e H λJ f=>∃W:Nat->Nat->St->Hp->Prop,(∃m,W 0 m e f)/\∀i m e H,W i m e H->
 (J.stop i H/\D.nx e H)∨(J.go i H/\∃N:St->Hp->Prop,(∀a h,N a h->∃M,M<m/\W (i+1) M a h)/\∀x h,J.yld i H x h->g x e h λb d=>tb { D with nx:=N,ct:=N,bk:=D.nx } b d)
def Wi (f:bR)(h:Heap):bS:=f.filterMap λb=>(h.get? b).map λo=>(b,o)
def GN {o:Obj}(H:b∈fp)(e:h.get? b=some o):(b,o)∈Wi fp h:=List.mem_filterMap.mpr ⟨b,H,by rw[e];rfl⟩
def DG {p:Addr×Obj}(H:p∈Wi fp h):p.1∈fp/\h.get? p.1=some p.2:=by
 obtain⟨b,a,e⟩:=List.mem_filterMap.mp H;cases q:h.get? b with
 |none=>rw[q]at e;cases e|some o=>
  rw[q]at e;have E:(b,o)=p:=aE e;subst E;exact⟨a,q⟩
def Inv.pinned {f:St}{H:Hp}{s:Shared}(I:Inv X o5 f H s)(g:∀b∈fp,wL X o5 H b)(c:∀b∈fp,∃o,s.heap.get? b=some o/\∀v,o.data≠.cell v):Inv X (o5++Wi fp s.heap) f H s:=
 I.pins_of λp a=>(cy.mp a).elim (λz=>I.pin p (aQ _ z)) λz=>by obtain⟨h,e⟩:=DG z;obtain⟨l,j,i,_⟩:=g p.1 h;obtain⟨o,E,d⟩:=c p.1 h;rw[e]at E;cases E;exact⟨e,l,j,i,d⟩
def Inv.unpinned {P:bS}{a:St}{H:Hp}{s:Shared}(I:Inv X (o5++P) a H s):Inv X o5 a H s:=I.pins_of λp h=>I.pin p (aQ _ (bt _ h))
def dz {Y:TI}{g:TG}{tb:TS}(B:PassesOwn (model X.prog X.w) X.A X.env X.xe)(hc:X.calm=true)(hi:PI X tg o7 Y)(hg:PG X tg g)(l:yP X body tb)
  (hs:∀x,foldedSetIterable o7 X.env x=pure x:=by intro _;rfl):PS X (.For tg o7 body [] o6) (dy Y g tb):=by
 intro o5 s σ H D I h;refine wpAny_For (zR (hi o5 s σ H _ I h) λv s1 h1=>zR h1 λitv s2 h2=>?_) hs;obtain⟨it,fp,Z,J,H2,e,I2,T,Zt,f2,W,⟨m0,w0⟩,turn⟩:=h2;subst e;have S:∀{H':Hp},(∀b∈fp,H' b=none)->∀b∈fp,wL X o5 H' b:=λhn b l=>⟨hn b l,(f2 b l).2⟩;refine codeAny_forLoop_any (λn s'=>∃i j H',Inv X o5 j H' s'/\Z i s'.heap/\(∀b∈fp,H' b=none)/\W i n j H') ?_ m0 ⟨0,σ,H2,I2,Zt,λb l=>(f2 b l).1,w0⟩
 rintro n s3 ⟨i,c,E,I3,ZM,C,w3⟩
 rcases turn i n c E w3 with ⟨stop,qn⟩|⟨go,N,hN,step⟩
 ·refine wpAny_passesOwn B (zR (T.done X rfl rfl rfl hc i o5 s3 c E X.xe I3 (S C) ZM stop) λr s4 ⟨M,I4⟩=>?_)
  subst M;exact wpAny_execs_nil ⟨c,E,I4,qn⟩
 ·refine wpAny_passesOwn B (zR (T.item X rfl rfl rfl hc i o5 s3 c E X.xe I3 (S C) ZM go) λr s4 ⟨u,M,h4⟩=>?_)
  subst M;refine wpAny_passesOwn B (zR h4 λ_ s5 ⟨x,H5,I5,r5,y5,t,P⟩=>?_);have U:=I5.pinned (S P) (T.obj _ _ t);refine wpAny_passesOwn B (zR (hg _ s5 c H5 x u _ U r5 (step x H5 y5)) λ_ s6 ⟨K,H6,I6,q6⟩=>?_);refine wpAny_passesOwn B (zR (l _ s6 K H6 _ I6 q6) λf L Q=>?_);have again:∀{a:St}{q:Hp},Inv X (o5++Wi fp s5.heap) a q L->N a q->∃m,m<n/\∃i j H',Inv X o5 j H' L/\Z i L.heap/\(∀b∈fp,H' b=none)/\W i m j H':=λ {a q} p y=>by obtain⟨m',hm,w7⟩:=hN a q y;refine⟨m',hm,i+1,a,q,p.unpinned,T.keep _ _ _ t λb l o e=>(p.pin (b,o) (aQ _ (aQ _ (GN l e)))).1,λb l=>?_,w7⟩;obtain⟨o,e,d⟩:=T.obj _ _ t b l;exact(p.pin (b,o) (aQ _ (aQ _ (GN l e)))).2.1
  cases f with|next=>obtain⟨a,q,p,y⟩:=Q;exact again p y|cont=>obtain⟨a,q,p,y⟩:=Q;exact again p y|brk=>obtain⟨a,q,p,Q⟩:=Q;exact⟨a,q,p.unpinned,Q⟩|ret v=>obtain⟨x7,a,q,p,r7,Q⟩:=Q;exact⟨x7,a,q,p.unpinned,r7,Q⟩
end
abbrev R2:=V->V->Hp->VK->Prop
def qS (X:Cx)(f:Value->Value->Sem Value)(r:R2):Prop:=
 ∀(o5:bS)(s:Shared)(σ:St)(H:Hp)(x y:V)(v u:Value)(Q:VK),Inv X o5 σ H s->RelV x v->RelV y u->r x y H Q->
  wpAny (model X.prog X.w) X.A (f v u) (EP X o5 σ Q) X.xe s
def VO (X:Cx)(f:Value->Sem Value)(r:V->Hp->VK->Prop):Prop:=
 ∀(o5:bS)(s:Shared)(σ:St)(H:Hp)(x:V)(v:Value)(Q:VK),Inv X o5 σ H s->RelV x v->r x H Q->
  wpAny (model X.prog X.w) X.A (f v) (EP X o5 σ Q) X.xe s
def yw (X:Cx)(f:Value)(r:List V->Hp->VK->Prop):Prop:=
 ∀(o5:bS)(s:Shared)(σ:St)(H:Hp)(xs:List V)(us:bQ)(Q:VK),Inv X o5 σ H s->Vals xs us->r xs H Q->
  wpAny (model X.prog X.w) X.A (call f us) (EP X o5 σ Q) X.xe s
def W7 (r:R2)(t tb:TE):TE:=λa H Q=>t a H λx b=>tb a b λy h=>r x y h Q
def Ih (r:V->Hp->VK->Prop)(t:TE):TE:=λa H Q=>t a H λx h=>r x h Q
def rI (C:Int->Int->Prop)(g:Int->Int->V):R2:=λx y H Q=>∃i j,x=.int i/\y=.int j/\C i j/\Q (g i j) H
def Zm (g:Int->Int->V):R2:=λx y H Q=>∃i j,x=.int i/\y=.int j/\Q (g i j) H
def rU (g:Int->V):V->Hp->VK->Prop:=λx H Q=>∃i,x=.int i/\Q (g i) H
section
variable {X:Cx}{a b:Expr}{ta tb:TE}
def Rx (j:PE X a ta)(i:PE X b tb){s:Shared}{o:St}{H:Hp}{R:V->V->Hp->Prop}(I:Inv X o5 o H s)
  (h:ta o H λx t=>tb o t λy c=>R x y c){f:Value->Value->Sem Value}
  (C:∀v u p x y c,Inv X o5 o c p->RelV x v->RelV y u->R x y c->wpAny (model X.prog X.w) X.A (f v u) Q X.xe p):
  wpAny (model X.prog X.w) X.A (eval a X.env) (λv d=>wpAny (model X.prog X.w) X.A (eval b X.env) (λu S=>wpAny (model X.prog X.w) X.A (f v u) Q X.xe S) X.xe d) X.xe s:=by
 refine zR (j o5 s o H _ I h) λv B ⟨x,t,n,e,g⟩=>?_;refine zR (i o5 B o t _ n g) λu p ⟨y,c,l,r,q⟩=>?_;exact C v u p x y c l e r q
def dA {j:Operator}{r:R2}(o:qS X (binaryOp j) r)(f:PE X a ta)(e:PE X b tb):PE X (.BinOp a j b o6) (W7 r ta tb):=by intro p s l H Q I h;exact wpAny_BinOp (Rx f e I h λv u S x y g i d c q=>o p S l g x y v u Q i d c q)
def dB {e:UnaryOp}{r:V->Hp->VK->Prop}(o:VO X (unaryOp e) r)(c:PE X a ta):PE X (.UnaryOp e a o6) (Ih r ta):=by intro p s d H Q I h;exact UnaryOp_ (zR (c p s d H _ I h) λv S ⟨x,f,i,b,q⟩=>o p S d f x v Q i b q)
def Kz {f:Value->Value->Sem Value}{C:Int->Int->Prop}{g:Int->Int->Int}
  (e:∀(i j:Int)(t u:Tok)(s:Shared)(Q:bV)(E:bV),C i j->Q (.int (g i j) s.toks) { s with toks:=s.toks+1 }->wpAny (model X.prog X.w) X.A (f (.int i t) (.int j u)) Q E s):
  qS X f (rI C λi j=>.int (g i j)):=by
 intro p s b H x y v u Q I a r h;obtain⟨i,j,rfl,rfl,c,q⟩:=h;obtain⟨t,rfl⟩:=a;obtain⟨T,rfl⟩:=r;exact e i j t T s _ _ c ⟨.int (g i j),H,I.tok _,⟨_,rfl⟩,q⟩
def Ve {f:Value->Value->Sem Value}{g:Int->Int->Int}
  (e:∀(i j:Int)(t u:Tok)(s:Shared)(Q:bV)(E:bV),Q (.int (g i j) s.toks) { s with toks:=s.toks+1 }->wpAny (model X.prog X.w) X.A (f (.int i t) (.int j u)) Q E s):
  qS X f (Zm λi j=>.int (g i j)):=by
 intro p s b H x y v u Q I a r h;obtain⟨i,j,rfl,rfl,q⟩:=h;obtain⟨t,rfl⟩:=a;obtain⟨T,rfl⟩:=r;exact e i j t T s _ _ ⟨.int (g i j),H,I.tok _,⟨_,rfl⟩,q⟩
def Vv {f:Value->Value->Sem Value}{g:Int->Int->Bool}
  (e:∀(i j:Int)(t u:Tok)(s:Shared)(Q:bV)(E:bV),Q (.bool (g i j)) s->wpAny (model X.prog X.w) X.A (f (.int i t) (.int j u)) Q E s):
  qS X f (Zm λi j=>.bl (g i j)):=by
 intro p s b H x y v u Q I a r h;obtain⟨i,j,rfl,rfl,q⟩:=h;obtain⟨t,rfl⟩:=a;obtain⟨T,rfl⟩:=r;exact e i j t T s _ _ ⟨.bl (g i j),H,I,rfl,q⟩
def Rp (i j:Int):Prop:=0<=j/\j<=1000000/\i.natAbs<2 ^ 64
def WN (i j:Int):Prop:=(-(2 ^ 64)<i/\i<2 ^ 64)∨(-(2 ^ 64)<j/\j<2 ^ 64)∨i.natAbs<2 ^ 256/\j.natAbs<2 ^ 256
def WN.ok {i j:Int}(h:WN i j):IntMulOk i j:=by
 rcases h with ⟨a,H⟩|⟨a,H⟩|⟨a,H⟩
 ·exact .of_left (intBits_le_64 a H)
 ·exact .of_right (intBits_le_64 a H)
 ·exact .of_le (PySem.intBits_le_iff.mpr a) (PySem.intBits_le_iff.mpr H) (by decide)
def two_pow_nn (k:Nat):(0:Int)<=2 ^ k:=by rw[two_pow_cast];exact Int.natCast_nonneg _
def dC:qS X (binaryOp .Add) (Zm λi j=>.int (i+j)):=Ve λ_ _ _ _ _ _ _ q=>add_int q
def dD:qS X (binaryOp .Sub) (Zm λi j=>.int (i-j)):=Ve λ_ _ _ _ _ _ _ q=>sub_int q
def dE:qS X (binaryOp .Mult) (rI WN λi j=>.int (i * j)):=Kz λ_ _ _ _ _ _ _ h q=>mul_int q h.ok
def dF:qS X (binaryOp .Mod) (rI (λ_ j=>0<j) λi j=>.int (i%j)):=Kz λi j _ _ _ _ _ h q=>by have H:(0:Int)<j:=h;exact mod_int' (by lia) (by rw[Int.fmod_eq_emod_of_nonneg i (by lia)];exact q)
def dG:qS X (binaryOp .Pow) (rI Rp λi j=>.int (i ^ j.toNat)):=Kz λ_ _ _ _ _ _ _ h q=>pow_int_small h.1 h.2.1 h.2.2 q
def dH:qS X (binaryOp .LShift) (rI Rp λi j=>.int (i * 2 ^ j.toNat)):=Kz λ_ _ _ _ _ _ _ h q=>lshift_int_small h.1 h.2.1 h.2.2 q
def dI:qS X (binaryOp .RShift) (rI (λ_ j=>0<=j) λi j=>.int (i/2 ^ j.toNat)):=Kz λi j _ _ _ _ _ h q=>
 rshift_int h (by rw[Int.fdiv_eq_ediv_of_nonneg i (two_pow_nn _)];exact q)
def dJ:qS X (binaryOp .BitAnd) (Zm λi j=>.int (Builtin.bitAnd i j)):=Ve λ_ _ _ _ _ _ _ q=>and_int q
def dM:qS X (binaryOp .BitXor) (Zm λi j=>.int (Builtin.bitXor i j)):=Ve λ_ _ _ _ _ _ _ q=>xor_int q
def dN {f:Value->Sem Value}{g:Int->Int}
  (e:∀(i:Int)(t:Tok)(s:Shared)(Q:bV)(E:bV),Q (.int (g i) s.toks) { s with toks:=s.toks+1 }->wpAny (model X.prog X.w) X.A (f (.int i t)) Q E s):
  VO X f (rU λi=>.int (g i)):=by
 intro p s a H x v Q I r h;obtain⟨i,rfl,q⟩:=h;obtain⟨t,rfl⟩:=r;exact e i t s _ _ ⟨.int (g i),H,I.tok _,⟨_,rfl⟩,q⟩
def dO:VO X (unaryOp .USub) (rU λi=>.int (-i)):=dN λ_ _ _ _ _ q=>neg_int q
variable {c:Expr}{tc:TE}
def dP {a:St}{H:Hp}{s:Shared}{Q:VK}{k K:Bool}(I:Inv X o5 a H s)(q:Q (.bl k) H)(e:k=K):EP X o5 a Q (.bool K) s:=by subst e;exact⟨.bl k,H,I,rfl,q⟩
def dQ:qS X (compareOp .Lt) (Zm λi j=>.bl (decide (i<j))):=Vv λ_ _ _ _ _ _ _ q=>lt_int q
def dR:qS X (compareOp .LtE) (Zm λi j=>.bl (decide (i<=j))):=Vv λ_ _ _ _ _ _ _ q=>le_int q
def dS:qS X (compareOp .Gt) (Zm λi j=>.bl (decide (j<i))):=Vv λ_ _ _ _ _ _ _ q=>gt_int q
def dU:qS X (compareOp .GtE) (Zm λi j=>.bl (decide (j<=i))):=Vv λ_ _ _ _ _ _ _ q=>ge_int q
def dV:qS X (compareOp .IsNot) (λx y H Q=>y=.non/\Q (.bl (!decide (x=.non))) H):=by
 intro p s b H x y v u Q I r a h;obtain⟨rfl,q⟩:=h;cases a;refine isnot_none_gen (dP I q ?_);cases x<;>first
  |(cases r;rfl)
  |(obtain⟨t,rfl⟩:=r;rfl)
def qS.or {f:Value->Value->Sem Value}{r c:R2}(h:qS X f r)(e:qS X f c):qS X f (λx y H Q=>r x y H Q∨c x y H Q):=by
 intro p s d H x y v u Q I b a q;rcases q with q|q
 ·exact h p s d H x y v u Q I b a q
 ·exact e p s d H x y v u Q I b a q
def An {r:R2}(o:qS X (compareOp op) r)(f:PE X a ta)(e:PE X b tb)(l:behindInMarks op b=false):PE X (.Compare a [op] [b] o6) (W7 r ta tb):=by intro p s j H Q I h;exact wpAny_Compare1 (Rx f e I h λv u S x y g i d c q=>o p S j g x y v u Q i d c q) l
def M7 (t:TE):TT:=λa H Q=>t a H λx h=>∃k,x=.bl k/\Q k h
def AR {r:R2}(o:qS X (compareOp op) r)(n:PE X a ta)(l:PE X b tb)(J:behindInMarks op b=false):PT X (.Compare a [op] [b] o6) (M7 (W7 r ta tb)):=by
 intro P s D H Q I h;refine wpAny_isTrue_Compare1 (zR (n P s D H _ I h) λv E ⟨x,K,A,g,j⟩=>zR (l P E D K _ A j) λu S ⟨y,C,t,f,i⟩=>
  zR (o P S D C x y v u _ t g f i) λc L ⟨z,B,p,d,k,e,q⟩=>?_) J
 subst e;cases d;exact wpAny_truthy_bool ⟨B,p,q⟩
def Sd (r b:R2)(T tb t:TE):TE:=λe H Q=>T e H λx f=>tb e f λy d=>r x y d λz h=>∃k,z=.bl k/\
 (if k=true then t e h λa c=>b y a c Q else Q (.bl false) h)
def C1 {o:CmpOp}{r i:R2}(E:qS X (compareOp op) r)(f:qS X (compareOp o) i)(L:PE X a ta)(K:PE X b tb)(J:PE X c tc)
  (hm:lastMarks [op,o] [b,c]=false:=by with_unfolding_all rfl):PE X (.Compare a [op,o] [b,c] o6) (Sd r i ta tb tc):=by
 intro U s Y H Q I h;refine Compare_chain (zR (L U s Y H _ I h) λv s1 ⟨x,H1,P,A,D⟩=>chain_link (zR (K U s1 Y H1 _ P D) λu s2 ⟨y,T,N,g,C⟩=>
  zR (E U s2 Y T x y v u _ N A g C) λd s3 ⟨z,l,j,t,k,e,q⟩=>?_)) hm
 subst e;cases t;refine wpAny_truthy_bool ?_;cases k with|false=>exact ite_ff ⟨.bl false,l,j,rfl,q⟩|true=>exact ite_tt (chain_last (zR (J U s3 Y l _ j q) λn s4 ⟨Z,S,M,p,B⟩=>f U s4 Y S y Z u n Q M g p B))
def C5 {o:CmpOp}{r i:R2}(L:qS X (compareOp op) r)(f:qS X (compareOp o) i)(P:PE X a ta)(N:PE X b tb)(M:PE X c tc)
  (hm:lastMarks [op,o] [b,c]=false:=by with_unfolding_all rfl):PT X (.Compare a [op,o] [b,c] o6) (M7 (Sd r i ta tb tc)):=by
 intro o5 s σ H Q I h;refine isTrue_chain (zR (P o5 s σ H _ I h) λv s1 ⟨x,H1,I1,B,J⟩=>test_link (zR (N o5 s1 σ H1 _ I1 J) λu s2 ⟨y,H2,I2,g,E⟩=>
  zR (L o5 s2 σ H2 x y v u _ I2 B g E) λd s3 ⟨z,l,j,A,k,e,q⟩=>?_)) hm
 subst e;cases A;refine wpAny_truthy_bool ?_;cases k with
 |false=>
  obtain⟨k',T,K⟩:=q;cases T;exact ite_ff ⟨l,j,K⟩
 |true=>
  refine ite_tt (test_last (zR (M o5 s3 σ l _ j q) λn s4 ⟨Z,H4,Y,t,D⟩=>zR (f o5 s4 σ H4 y Z u n _ Y g t D) λd' s5 ⟨z2,H5,U,p,k2,S,C⟩=>?_));subst S;cases p;exact wpAny_truthy_bool ⟨H5,U,C⟩
def Y0:(sizeLine:Nat)<2 ^ 63:=by rw[sizeLine_eq];decide
def vals1 {x:V}(r:Vals [x] us):∃u,us=[u]/\RelV x u:=by
 cases r with|cons b a=>cases a;exact⟨_,rfl,b⟩
def vals2 {x y:V}(r:Vals [x,y] us):∃u a,us=[u,a]/\RelV x u/\RelV y a:=by
 cases r with
 |cons e d=>
  cases d with|cons c b=>cases b;exact⟨_,_,rfl,e,c⟩
def DJ (c:X.calm=true):yw X (.builtin "max") (λxs H Q=>∃i j,xs=[.int i,.int j]/\Q (.int (if j > i then j else i)) H):=by
 intro p s d H xs U Q I r h;obtain⟨i,j,rfl,q⟩:=h;obtain⟨u,b,rfl,⟨t,rfl⟩,⟨e,rfl⟩⟩:=vals2 r;refine max_two_ints (I.ok.hd c) λf T k=>⟨_,H,I.kept k,?_,q⟩
 by_cases a:j > i
 ·rw[ai a,ai a];exact⟨_,rfl⟩
 ·rw[aj a,aj a];exact⟨_,rfl⟩
def Cm (c:X.calm=true):yw X (.builtin "min") (λxs H Q=>∃i j,xs=[.int i,.int j]/\Q (.int (if j<i then j else i)) H):=by
 intro p s d H xs U Q I r h;obtain⟨i,j,rfl,q⟩:=h;obtain⟨u,b,rfl,⟨t,rfl⟩,⟨e,rfl⟩⟩:=vals2 r;refine min_two_ints (I.ok.hd c) λf T k=>⟨_,H,I.kept k,?_,q⟩
 by_cases a:j<i
 ·rw[ai a,ai a];exact⟨_,rfl⟩
 ·rw[aj a,aj a];exact⟨_,rfl⟩
def Cd:yw X (.type "int") (λxs H Q=>(∃i,xs=[.int i]/\Q (.int i) H)∨∃k,xs=[.bl k]/\Q (.int (if k then 1 else 0)) H):=by
 intro p s b H xs U Q I r h;rcases h with ⟨i,rfl,q⟩|⟨k,rfl,q⟩
 ·obtain⟨u,rfl,t,rfl⟩:=vals1 r
  exact call_int_int ⟨.int i,H,I,⟨_,rfl⟩,q⟩
 ·obtain⟨u,rfl,a⟩:=vals1 r
  cases a;exact call_int_bool ⟨.int (if k then 1 else 0),H,I.tok _,⟨_,rfl⟩,q⟩
end
structure Rj (h:Heap)(x dx C:Addr)(mA:bY):Prop where
 obj:h.get? x=some (instObj C dx)
 ns:h.Ns1 dx mA
 ne:dx≠x
def DD {D:Addr}{M:bY}(n:h.Ns1 D M):∃d,h.get? D=some d/\∀name,lookIn name d=some (M name):=by
 obtain⟨o,E,p,c,i,f,_,g⟩:=n;refine⟨o,c,λname=>?_⟩;have e:=g name;unfold nsFind findBy at e;rw[<- Array.find?_toList]at e;unfold lookIn;rw[i];dsimp only
 split
 ·rename_i y q
  rw[q]at e;exact congrArg some e
 ·rename_i q
  rw[q]at e;have a:E.toList.any (·.refKey)=false:=by rw[List.any_eq_false];intro y b;obtain⟨z,t,H⟩:=f y (Array.mem_toList_iff.mp b);simp[DictEntry.refKey,H]
  have A:¬E.toList.any (·.refKey)=true:=by rw[a];exact aH
  rw[aj A];exact congrArg some e
def Rj.look {x d C:Addr}{M:bY}(I:Rj h x d C M):∃o,PySem.W.InstAt h x (instObj C d) C (some o)/\∀name,lookIn name o=some (M name):=
 let ⟨o,H,l⟩:=DD I.ns
 ⟨o,⟨I.obj,rfl,rfl,H⟩,l⟩
def QG.some_of {v:V}{o:Option Value}(r:QG (some v) o):∃u,o=some u/\RelV v u:=by
 cases o with|none=>exact(show False from r).elim|some u=>exact⟨u,rfl,r⟩
section
variable {w:World}{H:Hp}{C dx:Addr}{fs:List (Str×V)}
def dW (b:jd P w H h)(e:H a=some (.ins C dx fs)):∃M,Rj h a dx C M/\(∀f,QG (fs.lookup f) (M f))/\PySem.Within M (fs.map (·.1))/\fs.length<=1000/\H dx=some (.own a):=by
 obtain⟨d,z,N,ob,M,n,r,q⟩:=(show qV P w H h a (.ins C dx fs) from b a _ e)
 exact⟨M,⟨ob,n,N⟩,r,q,z,d⟩
end
structure gy (K:Frag)(C:Addr):Prop where
 pg:plainGet K C Str.empty=true
 hd:PySem.W.hasDictIn K C=true
 po:PySem.W.plainOver K C=true
 sa:PySem.W.findIn K (.ref C) "__setattr__"=some (some (.builtin "object.__setattr__"))
def gy.get {K:Frag}{C:Addr}(c:gy K C)(f:Str):plainGet K C f=true:=c.pg
section
variable {X:Cx}{σ:St}{H:Hp}{s:Shared}{A:Around}{c:Value}{b:Bool}
inductive gW (K:Frag)(H:Hp):V->Value->Prop where
 |non:gW K H .non (.type "NoneType")
 |bl (x:Bool):gW K H (.bl x) (.type "bool")
 |int (i:Int):gW K H (.int i) (.type "int")
 |str (x:Str):gW K H (.str x) (.type "str")
 |flt (x:UInt64):gW K H (.flt x) (.type "float")
 |lst {a:Addr} {xs:List V} (e:H a=some (.lst xs)):gW K H (.ref a) (.type "list")
 |frz {a:Addr} {o:Obj} {xs:List V} (e:H a=some (.frz o (.lst xs))):gW K H (.ref a) (.type "list")
 |tup {a:Addr} {xs:List V} (e:H a=some (.tup xs)):gW K H (.ref a) (.type "tuple")
 |dK {a:Addr} {kvs:List (Key×V)} (e:H a=some (.dK kvs)):gW K H (.ref a) (.type "dict")
 |dT {a:Addr} {kvs:List (List Key×V)} (e:H a=some (.dT kvs)):gW K H (.ref a) (.type "dict")
 |ins {a C dx:Addr} {fs:List (Str×V)} (e:H a=some (.ins C dx fs)) (cl:gy K C) (ha:PySem.W.findIn K (.ref C) "__class__"=some (some (.builtin "object.__class__")))
   (hn:PySem.W.specialIn K (.builtin "object.__class__") "__get__"=some (some (.builtin "getset_descriptor.__get__"))) (htk:PySem.W.takesIn K (.builtin "object.__class__")=some true)
   (hm:PySem.W.mroIn K C (.type "object")=some true):gW K H (.ref a) (.ref C)
def OJ {x:V}{t:Value}(I:Inv X o5 σ H s)(r:RelV x u)(ty:gW X.K H x t)(e:kitOne X.K t c=some b)(h:∀T,Q (.bool b) { s with toks:=T }):
  wpAny (model X.prog X.w) A (call (.builtin "isinstance") [u,c]) Q E s:=by
 cases ty with
 |non=>cases (show u=Value.none from r);exact bB kitx_none I.kIn True.intro e (λz=>nomatch z) h
 |bl y=>cases (show u=Value.bool y from r);exact bB kitx_bool I.kIn True.intro e (λz=>nomatch z) h
 |int i=>obtain⟨t,q⟩:=(show ∃t,u=Value.int i t from r);cases q;exact bB kitx_int I.kIn True.intro e (λz=>nomatch z) h
 |str y=>obtain⟨t,q⟩:=(show ∃t,u=Value.str y t from r);cases q;exact bB kitx_str I.kIn True.intro e (λz=>nomatch z) h
 |flt y=>obtain⟨t,q⟩:=(show ∃t,u=Value.float y t from r);cases q;exact bB kitx_float I.kIn True.intro e (λz=>nomatch z) h
 |@lst a xs ea=>
  cases (show u=Value.ref a from r)
  obtain⟨_,_,n,_,v⟩:=(show qV X.prog X.w H s.heap a (.lst xs) from I.hok a _ ea)
  exact bB kitx_list I.kIn ⟨_,v,rfl⟩ e (λz=>nomatch z) h
 |@frz a ob xs ea=>
  cases (show u=Value.ref a from r)
  obtain⟨_,_,_,n,_,v⟩:=(show qV X.prog X.w H s.heap a (.frz ob (.lst xs)) from I.hok a _ ea)
  exact bB kitx_list I.kIn ⟨_,v,rfl⟩ e (λz=>nomatch z) h
 |@tup a xs ea=>
  cases (show u=Value.ref a from r)
  obtain⟨_,_,_,p⟩:=(show qV X.prog X.w H s.heap a (.tup xs) from I.hok a _ ea)
  obtain⟨o,v,B,_⟩:=p;exact bB kitx_tuple I.kIn ⟨o,v,B.1⟩ e (λz=>nomatch z) h
 |@dK a kvs ea=>
  cases (show u=Value.ref a from r)
  obtain⟨_,_,D,_,p⟩:=(show qV X.prog X.w H s.heap a (.dK kvs) from I.hok a _ ea)
  obtain⟨o,g,j,v,B,_⟩:=p;exact bB kitx_dict I.kIn ⟨o,v,B.1⟩ e (λz=>nomatch z) h
 |@dT a kvs ea=>
  cases (show u=Value.ref a from r)
  obtain⟨_,_,xs,_,o,g,j,v,B,_⟩:=(show qV X.prog X.w H s.heap a (.dT kvs) from I.hok a _ ea)
  exact bB kitx_dict I.kIn ⟨o,v,B.1⟩ e (λz=>nomatch z) h
 |@ins a C dx fs ea cl f hn d hm=>
  cases (show u=Value.ref a from r)
  obtain⟨M,O,_⟩:=dW I.hok ea;obtain⟨l,J,_⟩:=O.look;exact bB (PySem.W.kitx_own (cl.get _) cl.hd f hn d hm) I.kIn J e (λz=>nomatch z) h
end
structure jb (k:Nat)(A:Around):Prop where
 hd:A.handled=none
 dp:A.depth+3 * k+5<recursionLimit
 un:A.units+16 * k+200<cLine
 gd:A.guards=some []
def jb.mono {j k:Nat}{A:Around}(r:jb k A)(h:j<=k):jb j A:=⟨r.hd,by have:=r.dp;lia,by have:=r.un;lia,r.gd⟩
theorem jb.deeper {k:Nat}{A:Around}(r:jb (k+1) A)(e:Env):jb k (A.deeper e):=
 ⟨r.hd,by have:=r.dp;show A.depth+1+3 * k+5<_;lia,by have:=r.un;show A.units+3+16 * k+200<_;lia,r.gd⟩
theorem jb.depth {k:Nat}{A:Around}(r:jb k A):A.depth<recursionLimit:=by have:=r.dp;lia
theorem jb.units {k:Nat}{A:Around}(r:jb k A):A.units+64<cLine:=by have:=r.un;lia
def Rh:TA:=λ_ H Q=>Q [] H
def XZ (t:TE)(tr:TA):TA:=λa H Q=>t a H λx b=>tr a b λX h=>Q (x::X) h
section
variable {X:Cx}{es:bW}{te:TE}{t:TA}
def yg:PA X [] Rh:=λ_ _ _ _ H Q I h=>Calls.spliced_nil ⟨[],H,I,.nil,h⟩
def jw (f:PE X e te)(d:PA X es t)(c:starEach (e::es) X.env=(false,eval e X.env)::starEach es X.env:=by rfl):PA X (e::es) (XZ te t):=by intro P p s l H Q I h;rw[c];show wpAny _ _ (spliced ((false,eval e X.env)::backTo P (starEach es X.env))) _ _ s;refine Calls.spliced_cons (zR (f p s l H _ I h) λu S ⟨x,o,g,a,b⟩=>?_);exact zR (d P p S l o _ g b) λU v ⟨n,j,i,r,q⟩=>⟨x::n,j,i,.cons a r,q⟩
def dX (t:TA):TE:=λa H Q=>t a H λx h=>x.length<=sizeLine/\∀p,h p=none->Q (.ref p) (upd h p (.tup x))
def dY (t:TA):TE:=λa H Q=>t a H λx h=>x.length<=sizeLine/\∀p,h p=none->Q (.ref p) (upd h p (.lst x))
def Ml {x1}(h:PA X es t):PE X (.Tuple es x1 o6) (dX t):=by
 intro p s d H Q I a;refine wpAny_Tuple_spliced (zR (h o6 p s d H _ I a) λU S ⟨x,c,i,r,z,q⟩=>⟨by rw[<- r.length];exact z,?_⟩)
 have f:c S.heap.objs.size=none:=i.hok.fresh (aq _);refine⟨.ref S.heap.objs.size,upd c S.heap.objs.size (.tup x),i.laid (t':=S.toks) (λb u e=>af _ e) (aq _) ?_,rfl,q _ f⟩;exact⟨z,U,r,⟨_,aC _ rfl,⟨rfl,rfl⟩,_,rfl⟩⟩
def dZ (h:PA X es t):PE X (.List es o6) (dY t):=by
 intro p s d H Q I a;refine wpAny_List_spliced (zR (h o6 p s d H _ I a) λU S ⟨x,c,i,r,z,q⟩=>⟨by rw[<- r.length];exact z,?_⟩)
 have f:c S.heap.objs.size=none:=i.hok.fresh (aq _);refine⟨.ref S.heap.objs.size,upd c S.heap.objs.size (.lst x),i.laid (t':=S.toks) (λb u e=>af _ e) (aq _) ?_,rfl,q _ f⟩;exact⟨z,U,0,r,aC _ rfl⟩
end
abbrev Sp:=List V->Hp->VK->XK->Prop
abbrev Zy:=List Env->Hp->Shared->XK->Value->Shared->Prop
structure J3 (P:Program)(w:World)(K:Frag)(mg:bY)(base:Heap)(A:Around)(outer:bZ)(s:Shared)(H:Hp):Prop where
 frames:A.frames=some outer
 mod:Mod K mg base
 bs:∀b o,base.get? b=some o->s.heap.get? b=some o/\H b=none
 bsz:base.objs.size<=s.heap.objs.size
 funs:s.heap.FunFrames base outer
 frf:∀b∈qL outer,H b=none
 hok:jd P w H s.heap
 bare:AllBare s.gens
inductive CE (outer:bZ)(P:Program)(w:World)(H:Hp)(s:Shared)(Q:VK)(u:Value)(s':Shared):Prop
 |mk (v:V) (H':Hp) (os:s'.os=s.os) (b:AllBare s'.gens) (un:Un (qL outer) [] H H' s.heap s'.heap) (hk:jd P w H' s'.heap) (r:RelV v u) (q:Q v H')
def CR (C:Zy)(o:bZ)(P:Program)(w:World)(H:Hp)(s:Shared)(Q:VK)(E:XK)(r:Result)(S:Shared):Prop:=
 match r with|.ok (.ret u)=>CE o P w H s Q u S|.ok _=>False|.error e=>C o H s E e S
structure yi (P:Program)(w:World)(K:Frag)(mg:bY)(base:Heap)(CX:Zy)(k:Nat)(f:Addr)(fd:FuncData)(ps:bU)(sp:Sp):Prop where
 len:∀vs H Q E,sp vs H Q E->vs.length=ps.length
 run:∀(A:Around)(outer:bZ)(s:Shared)(H:Hp)(args:Args)(us:bQ)(vs:List V)(Q:VK)(E:XK),jb k A->J3 P w K mg base A outer s H->BindsTo s fd args (ps.zip us)->Vals vs us->sp vs H Q E->
  codeAny (model P w) A (.call (.ref f) args) (CR CX outer P w H s Q E) s
theorem yi.mono {w:World}{K:Frag}{C:Zy}{j k:Nat}{ps:bU}{S:Sp}(F:yi P w K mg base C j f fd ps S)(h:j<=k):
  yi P w K mg base C k f fd ps S:=⟨F.len,λA o s H a u v Q E r=>F.run A o s H a u v Q E (r.mono h)⟩
def yi.imp {w:World}{K:Frag}{C:Zy}{k:Nat}{ps:bU}{p S:Sp}(F:yi P w K mg base C k f fd ps p)
  (h:∀vs H Q E,S vs H Q E->p vs H Q E):yi P w K mg base C k f fd ps S:=
 ⟨λvs H Q E q=>F.len vs H Q E (h _ _ _ _ q),λA o s H c u vs Q E r e b v a=>F.run A o s H c u vs Q E r e b v (h _ _ _ _ a)⟩
section
variable {X:Cx}{σ:St}{H:Hp}{s:Shared}
def Inv.env0 (I:Inv X o5 σ H s):J3 X.prog X.w X.K X.mg X.base X.A X.stack s H:=
 ⟨I.ok.frames,I.ok.mod,I.bs,aZ I.ok.bsz I.sz,I.stack,I.stkFree,I.hok,I.bare⟩
def Inv.after {Q:VK}(I:Inv X o5 σ H s)(h:CE X.stack X.prog X.w H s Q u s'):EP X o5 σ Q u s':=by obtain⟨v,c,f,B,un,e,r,q⟩:=h;obtain⟨a,g,d,t,o⟩:=s';obtain rfl:o=s.os:=f;exact⟨v,c,I.call (h':=a) (g':=g) (d':=d) (t':=t) (ch:=[]) un e B (λb z=>absurd z (by simp)),r,q⟩
end
def d0 (S:Sp)(d:List V)(E:XK)(t:TA):TE:=λa H Q=>t a H λv h=>S (v++d) h Q E
def Binds (K:Frag)(f:FuncData)(ps:bU)(d:bQ):Prop:=
 ∀(s:Shared)(us:bQ),K.In s.heap->(us++d).length=ps.length->BindsTo s f ⟨us,[]⟩ (ps.zip (us++d))
def Binds.all {K:Frag}{ps:bU}(h:∀us:bQ,us.length=ps.length->bindArgs fd ⟨us,[]⟩=pure (ps.zip us)):Binds K fd ps []:=λs us _ H=>by rw[a5]at H ⊢;exact .of_eq (h us H)
def Passes (C:Zy)(X:Cx)(E:XK):Prop:=∀(o5:bS)(σ:St)(H:Hp)(s:Shared)(e:Value)(s':Shared),Inv X o5 σ H s->C X.stack H s E e s'->X.xe e s'
section
variable {X:Cx}{CX:Zy}{k:Nat}{ps:bU}{sp:Sp}{dvs:List V}{ds:bQ}{E:XK}{es:bW}{t:TA}
def d1 {g:St}{H:Hp}{s:Shared}{Q:VK}{v:List V}(F:yi X.prog X.w X.K X.mg X.base CX k f fd ps sp)(b:jb k X.A)(c:Binds X.K fd ps ds)(i:Vals dvs ds)(x:Passes CX X E)
  (I:Inv X o5 g H s)(r:Vals v us)(h:sp (v++dvs) H Q E):wpAny (model X.prog X.w) X.A (call (.ref f) us) (EP X o5 g Q) X.xe s:=by
 have a:Vals (v++dvs) (us++ds):=r.append i;have l:(us++ds).length=ps.length:=by rw[<- a.length];exact F.len _ _ _ _ h
 refine wpAny_call (codeAny_mono (F.run X.A X.stack s H ⟨us,[]⟩ (us++ds) (v++dvs) Q E b I.env0 (c s us I.kIn l) a h) λr S q=>?_);cases r with
 |error e=>exact x o5 g H s e S I q|ok d=>
  cases d with|ret u=>exact I.after q|next=>exact False.elim q|brk=>exact False.elim q|cont=>exact False.elim q
def Np (F:yi X.prog X.w X.K X.mg X.base CX k f fd ps sp)(c:jb k X.A)(g:Gl X x)(u:X.mg x=some (.ref f))(d:keepIn X.K (.ref f)=true)(j:Binds X.K fd ps ds)(y:Vals dvs ds)(a:Passes CX X E)
  (n:PA X (e::es) t)(b:(x==("__debug__":Str))=false:=by decide)(v:starEach (e::es) X.env=(false,eval e X.env)::starEach es X.env:=by rfl)(l:(backTo o6 (starEach es X.env)).any (·.1)=false:=by rfl):
  PE X (.Call (.Name x p) (e::es) [] o6) (d0 sp dvs E t):=by
 intro P s o H Q I h;refine wpAny_Call_Name_kw (YR I g u ?_ b);refine callWith_K (h₀:=X.base) I.ok.mod.kin d (zR (n o6 P s o H _ I h) λU S ⟨B,C,i,r,q⟩=>⟨i.kIn,?_⟩) v l;exact d1 F c j y a i r q
end
structure k9 (N P:bU)(sc:Scope):Prop where
 kind:sc.kind=.function
 co:sc.isCoroutine=false
 gen:sc.isGenerator=false
 nd:N.Nodup
 pre:N.take P.length=P
 par:∀x∈P,sc.names.lookup x=some .local∨sc.names.lookup x=some .cell
 nofree:∀y∈sc.names,y.2≠.free
theorem Oj {K:Str->Option NameKind}:∀{binds:List (Str×Value)}{m:bY},(∀v,(x,v)∉binds)->bindL K binds m x=m x
 |[],_,_=>rfl|(n,v)::r,m,h=>by
  unfold bindL;rw[Oj λw H=>h w (az _ H)]
  split
  ·have:x≠n:=by rintro rfl;exact h v aF
   simp[this]
  ·rfl
theorem OA {K:Str->Option NameKind}:∀{binds:List (Str×Value)}{m:bY},(∀v,(x,v)∉binds)->bindC K binds m x=m x
 |[],_,_=>rfl|(n,v)::r,m,h=>by
  unfold bindC;rw[OA λw H=>h w (az _ H)]
  split
  ·rfl
  ·have:x≠n:=by rintro rfl;exact h v aF
   simp[this]
theorem OD {K:Str->Option NameKind}{v:Value}:∀{P:bU}{b:bQ}{i:Nat}{m:bY},P.Nodup->P[i]? =some x->b[i]? =some v->K x=some .local->
  bindL K (P.zip b) m x=some v
 |[],_,_,_,_,h,_,_=>by simp at h|_::_,[],_,_,_,_,h,_=>by simp at h|p::P,w::b,0,m,nd,h1,h2,H=>by simp at h1 h2;subst h1;subst h2;show bindL K ((p,w)::P.zip b) m p=_;unfold bindL;rw[Oj λv a=>(List.nodup_cons.mp nd).1 (of_mem_zip a).1,ai H];simp
 |p::P,w::b,i+1,m,nd,h1,h2,H=>by show bindL K ((p,w)::P.zip b) m x=_;unfold bindL;exact OD (i:=i) (List.nodup_cons.mp nd).2 (by simpa using h1) (by simpa using h2) H
theorem Ol {K:Str->Option NameKind}{v:Value}:∀{P:bU}{b:bQ}{i:Nat}{m:bY},P.Nodup->P[i]? =some x->b[i]? =some v->K x≠some .local->
  bindC K (P.zip b) m x=some v
 |[],_,_,_,_,h,_,_=>by simp at h|_::_,[],_,_,_,_,h,_=>by simp at h|p::P,w::b,0,m,nd,h1,h2,H=>by simp at h1 h2;subst h1;subst h2;show bindC K ((p,w)::P.zip b) m p=_;unfold bindC;rw[OA λv a=>(List.nodup_cons.mp nd).1 (of_mem_zip a).1,aj H];simp
 |p::P,w::b,i+1,m,nd,h1,h2,H=>by show bindC K ((p,w)::P.zip b) m x=_;unfold bindC;exact Ol (i:=i) (List.nodup_cons.mp nd).2 (by simpa using h1) (by simpa using h2) H
noncomputable def start (N:bU)(v:List V):St:=v.map some++List.replicate (N.length-v.length) none
noncomputable def yU (C:Zy)(P:Program)(w:World)(K:Frag)(M:bY)(b:Heap)(N:bU)(qual:Str)(scope:Scope)(f:Addr)(c:Value)(A:Around)(o:bZ)(s:Shared)(H:Hp)(E:XK):Cx where
 prog:=P
 w:=w
 K:=K
 mg:=M
 base:=b
 A:=A.deeper (envOfC qual scope s.heap.objs.size f c)
 N:=N
 s0:=s
 H0:=H
 env:=envOfC qual scope s.heap.objs.size f c
 outer:=o
 stack:=envOfC qual scope s.heap.objs.size f c::o
 ex:=[]
 calm:=true
 fn:=λ_=>true
 pn:=[]
 xe:=λe d=>wpAny (model P w) (A.deeper (envOfC qual scope s.heap.objs.size f c)) (leaving (envOfC qual scope s.heap.objs.size f c) e) (λ_ S=>C o H s E e S) (λa S=>C o H s E a S) d
def O7 (h:sc.names.lookup x=some .cell):∃c,(cellsFrom n sc.names []).lookup x=some c:=by have q:=cellsFrom_some sc.names n [] (.inl h);exact Option.isSome_iff_exists.mp q
def Dv {X:Zy}{w:World}{K:Frag}{ps:bU}{cd:Value}{A:Around}{Q:bZ}{s s1:Shared}{H:Hp}{E:XK}{Y:List V}
  (S:k9 N ps scope)(hd:A.handled=none)(d:J3 P w K mg base A Q s H)(L:Y.length=ps.length)(r:Vals Y us)
  (x:InCallC s s.heap.objs.size (bindL (envOfC qual scope s.heap.objs.size f cd).kindOf (ps.zip us) λ_=>none) (cellsFrom (s.heap.objs.size+1) scope.names []) (bindC (envOfC qual scope s.heap.objs.size f cd).kindOf (ps.zip us) λ_=>none) s1):
  Inv (yU X P w K mg base N qual scope f cd A Q s H E) [] (start N Y) H s1:=by
 have I:ps.length<=N.length:=by have:=congrArg List.length S.pre;rw[bD]at this;lia
 obtain⟨Z,T,rfl,C⟩:=x.done;have g:∀b:Addr,b∉(yU X P w K mg base N qual scope f cd A Q s H E).ex:=λb z=>absurd (show b∈([]:bR) from z) (by simp)
 refine⟨⟨d.mod,S.kind,rfl,rfl,aq _,λy z c Z U=>?_,λy j=>?_,λy c _ h=>?_,λ_=>hd,Around.frames_deeper d.frames,.inr ⟨rfl,rfl⟩,λb z=>absurd z (g b),d.bs,d.bsz,λb _ _=>g b,λb z=>absurd z (g b),d.funs,d.frf⟩,
  rfl,d.bare,Un.kept C,⟨_,x.toInCall.ns,λi y v Z U M=>?_⟩,λy c h=>⟨_,x.cell y c h⟩,d.hok.fresh (aq _),λy c h=>?_,λp o=>absurd (show p∈([]:bS) from o) (by simp),d.hok.kept C,?_⟩
 ·exact name_of_addr x.apart (PySem.mem_of_lookup Z) (PySem.mem_of_lookup U)
 ·have j:scope.names.lookup y=some .cell∨scope.names.lookup y=some .free:=j
  rcases j with j|j
  ·exact O7 j
  ·exact absurd rfl (S.nofree _ (PySem.mem_of_lookup j))
 ·exact bI (x.above y c (PySem.mem_of_lookup h))
 ·have t:i<Y.length:=by
   unfold start at U
   by_cases t:i<Y.length
   ·exact t
   ·rw[au (by simpa using t)]at U
    rw[bb]at U
    split at U<;>cases U
  have J:Y[i]? =some v:=by
   unfold start at U;rw[ah (by simpa using t),ax]at U
   cases e:Y[i]? with|none=>rw[e]at U;cases U|some a=>rw[e]at U;cases U;rfl
  obtain⟨u,B,D⟩:=r.get J;have o:ps[i]? =some y:=by rw[<- S.pre,List.getElem?_take_of_lt (by lia)];exact Z
  have l:ps.Nodup:=by rw[<- S.pre];exact S.nd.sublist (List.take_sublist _ _)
  refine⟨u,D,?_⟩;rcases S.par y (mem_of_getElem? o) with k|k
  ·exact .inl ⟨k,OD l o B k⟩
  ·obtain⟨c,e⟩:=O7 (n:=s.heap.objs.size+1) k
   refine .inr ⟨.inl k,c,e,?_⟩;have q:=x.cell y c e;rw[Ol l o B (by show scope.names.lookup y≠_;rw[k];decide)]at q
   exact q
 ·exact d.hok.fresh (bI (x.above y c (PySem.mem_of_lookup h)))
 ·unfold start
  show _=N.length;rw[aw,ag,bo];lia
def S9 {C:Zy}{w:World}{K:Frag}{k:Nat}{name:Str}{params:Arguments}{L kV doc pm c ct T:Value}{an M:b9}
  {ps:bU}{sp:Sp}(lk:K.lookup f=some ⟨T,M,.func (fnOf name qual params body scope L kV doc pm an c ct),pd⟩)(D:codeIn K c qual=true)(S:k9 N ps scope)
  (len:∀vs H Q E,sp vs H Q E->vs.length=ps.length)
  (g:∀(A:Around)(outer:bZ)(s:Shared)(H:Hp)(vs:List V)(Q:VK)(E:XK),jb k (A.deeper (envOfC qual scope s.heap.objs.size f c))->sp vs H Q E->
   ∃t,yP (yU C P w K mg base N qual scope f c A outer s H E) body t/\t { nx:=λ_ h=>Q .non h,rt:=Q } (start N vs) H):
  yi P w K mg base C (k+1) f (fnOf name qual params body scope L kV doc pm an c ct) ps sp:=by
 refine⟨len,λA outer s H args us vs Q E B j hb r p=>?_⟩;have Z:=len _ _ _ _ p;have X:K.In s.heap:=j.mod.kin.keeps λb o e=>(j.bs b o e).1;have lim:s.heap.NoLimit:=j.mod.nolimit.keeps λb o e=>(j.bs b o e).1;have d:∀y∈ps.zip us,scope.names.lookup y.1=some .local∨(scope.names.lookup y.1=some .cell/\((cellsFrom (s.heap.objs.size+1) scope.names []).lookup y.1).isSome=true):=λ⟨n,v⟩ U=>by
  rcases S.par n (of_mem_zip U).1 with q|q
  ·exact .inl q
  ·exact .inr ⟨q,cellsFrom_some _ _ _ (.inl q)⟩
 refine codeAny_call_function B.depth (X _ _ lk) rfl S.co S.gen rfl (PySem.W.codeRec_of X D) (hb _ _ _ _ ?_);refine wpAny_newFunctionEnv_cells S.kind d λenv he s1 x=>?_;subst he;refine⟨lim.keeps x.toInCall.keep,codeAny_func ?_⟩;obtain⟨t,ht,Y⟩:=g A outer s H vs Q E (B.deeper _) p;have I:Inv (yU C P w K mg base N qual scope f c A outer s H E) [] (start N vs) H s1:=Dv S B.hd j Z r x;refine wpAny_mono (ht [] s1 (start N vs) H _ I Y) (λfl s' i=>?_) λe s' i=>i;have fin:∀{a:St}{h:Hp}{v:V}{u:Value},Inv (yU C P w K mg base N qual scope f c A outer s H E) [] a h s'->RelV v u->Q v h->CE outer P w H s Q u s':=
  λ {a h v u} J l q=>⟨v,h,J.os,J.bare,J.base,J.hok,l,q⟩
 cases fl with
 |ret u=>
  obtain⟨v,a,h,J,l,q⟩:=i;exact fin J l q
 |next=>
  obtain⟨a,h,J,q⟩:=i;exact fin (v:=V.non) (u:=Value.none) J rfl q
 |brk=>
  obtain⟨_,_,_,q⟩:=i;exact False.elim q
 |cont=>
  obtain⟨_,_,_,q⟩:=i;exact False.elim q
section
variable {X:Cx}{es:bW}{t:TA}{id T:String}{r:List V->Hp->VK->Prop}
def VN (r:List V->Hp->VK->Prop)(t:TA):TE:=λa H Q=>t a H λv h=>r v h Q
def QZ (c:yw X (.builtin id) r)(g:Gl X x)(o:X.mg x=none)(v:bootBuiltins x=some (.builtin id))(d:PA X (e::es) t)(n:x ≠ "__name__":=by decide)(b:(x==("__debug__":Str))=false:=by decide)
  (y:starEach (e::es) X.env=(false,eval e X.env)::starEach es X.env:=by rfl)(l:(backTo o6 (starEach es X.env)).any (·.1)=false:=by rfl):PE X (.Call (.Name x p) (e::es) [] o6) (VN r t):=by
 intro P s f H Q I h;refine wpAny_Call_Name_kw (Q7 I g o v ?_ n b);exact PyProof.Rows.callWith_builtin1 (zR (d o6 P s f H _ I h) λu S ⟨j,A,i,a,q⟩=>c P S f A j u Q i a q) y l
def KU (c:yw X (.type T) r)(g:Gl X x)(o:X.mg x=none)(v:bootBuiltins x=some (.type T))(d:PA X (e::es) t)(n:x ≠ "__name__":=by decide)(b:(x==("__debug__":Str))=false:=by decide)
  (y:starEach (e::es) X.env=(false,eval e X.env)::starEach es X.env:=by rfl)(l:(backTo o6 (starEach es X.env)).any (·.1)=false:=by rfl):PE X (.Call (.Name x p) (e::es) [] o6) (VN r t):=by
 intro P s f H Q I h;refine wpAny_Call_Name_kw (Q7 I g o v ?_ n b);exact PyProof.Rows.callWith_type1 (zR (d o6 P s f H _ I h) λu S ⟨j,A,i,a,q⟩=>c P S f A j u Q i a q) y l
end
end L2
variable {X:L2.Cx}{o:L2.HO}{H:L2.Hp}{kvs:List (L2.Key×L2.V)}{vs xs ys:List L2.V}{r:List L2.V->L2.Hp->L2.VK->Prop}{PK:PySem.Obj->PySem.Addr->PySem.Obj->List L2.V->Prop}{σ:L2.St}{v:L2.V}
namespace HT
open PySem PyProof.Rows
section
open PySem.SeqAt
open PySem.AutoSeq1 (wpAny_loadPart')
open PySem.MeetsSeq PySem.MeetsSeq2 PySem.MeetsSeq3
end
section
variable {prog:Program}{w:World}{A:Around}{s:Shared}
def A8 {t:Addr}{i g:bQ}(u:IsTup s.heap t i.toArray)(f:IsTup s.heap b g.toArray)(v:i≠[])
  (y:g=[]->Q (.ref t) s)(x:g≠[]->Q (.ref s.heap.objs.size) { s with heap:=s.heap.push { cls:=.type "tuple",data:=.seq (i++g).toArray } })
  (a:i.length+g.length<=sizeLine):wpAny (model prog w) A (binaryOp .Add (.ref t) (.ref b)) Q E s:=by
 obtain⟨⟨B,r,data,l⟩,o,c,n,q⟩:=id u;obtain⟨⟨C,d,D,S⟩,h,H,N,j⟩:=id f;simp only at c q H j;subst c q H j;have e:i.toArray++g.toArray=(i++g).toArray:=by simp
 by_cases p:g=[]
 ·exact concat_meets ⟨_,o,rfl⟩ ⟨_,h,rfl⟩ noFill_tuple_add seq_tuple_add slot_tuple_add entry_tuple_add (args_tuple_add_2 _ _)
   (tuple_addW1 t b i.toArray g.toArray n N r d l S (by simpa using v) (by simp[p])) ⟨o,h,y p⟩
 ·refine concat_meets ⟨_,o,rfl⟩ ⟨_,h,rfl⟩ noFill_tuple_add seq_tuple_add slot_tuple_add entry_tuple_add (args_tuple_add_2 _ _)
   (tuple_addW2 t b i.toArray g.toArray n N r d l S (by simpa using v) (by simpa using p) (by rw[aB,aB];exact a)) ⟨o,h,?_⟩
  rw[e];exact x p
noncomputable def qk (n d:Nat):Option Int->Nat
 |none=>d|some v=>if v<0 then(v+(n:Int)).toNat else min v.toNat n
def CQ (n d:Nat):qk n d none=d:=rfl
def za1 (n d k:Nat):qk n d (some (k:Int))=min k n:=by
 show(if (k:Int)<0 then((k:Int)+(n:Int)).toNat else min (k:Int).toNat n)=min k n;rw[aj (by lia),aA]
def d4 (n d:Nat)(H:d<=n)(o:bX):qk n d o<=n:=by
 cases o with
 |none=>exact H|some v=>
  show(if v<0 then(v+(n:Int)).toNat else min v.toNat n)<=n
  by_cases h:v<0
  ·rw[ai h];lia
  ·rw[aj h];exact Nat.min_le_right _ _
def NI (v:Int)(n d:Nat):(if v<0 then max (v+(n:Int)) 0 else min v (n:Int))=((qk n d (some v):Nat):Int):=by
 show(if v<0 then max (v+(n:Int)) 0 else min v (n:Int))=(((if v<0 then(v+(n:Int)).toNat else min v.toNat n):Nat):Int)
 by_cases h:v<0
 ·simp only[ai h];lia
 ·simp only[aj h];lia
def EI (l h:bX)(n:Nat):Builtin.Slice.sliceAdjust l h 1 (n:Int)=(((qk n 0 l:Nat):Int),((qk n n h:Nat):Int)):=by
 have H:¬((1:Int)<0):=by lia
 unfold Builtin.Slice.sliceAdjust;simp only[H,if_false];refine Prod.ext ?_ ?_
 ·cases l with|none=>rfl|some v=>exact NI v n 0
 ·cases h with|none=>rfl|some v=>exact NI v n n
def ED (i j:Nat):Builtin.Slice.slicePlaces (i:Int) (j:Int) 1=j-i:=by
 unfold Builtin.Slice.slicePlaces;have h:(1:Int) > 0:=by lia
 simp only[h,if_true,Int.ediv_one]
 split<;>lia
def KQ {v:Value}{o:bX}{Q:Option Int->Shared->Prop}(p:IsPart v o)(h:Q o s):wpAny (model prog w) A (Builtin.Slice.slicePartIndex v) Q E s:=by
 cases p with|none=>exact slicePart_none h|int i t=>exact slicePart_int h
def R1 {S:Addr}{l v:Value}{L i:bX}{Q:Int×Int×Nat->Shared->Prop}(b:s.heap.IsSliceOf S l v .none)(p:IsPart l L)(P:IsPart v i)
  (h:Q (((qk n 0 L:Nat):Int),1,qk n n i-qk n 0 L) s):wpAny (model prog w) A (Builtin.Slice.sliceApplied (.ref S) (pure (n:Int))) Q E s:=by
 obtain⟨o,H,c,a⟩:=id b;unfold Builtin.Slice.sliceApplied Builtin.Slice.sliceFields;refine cf (cf (wpAny_field H a (x:=l) rfl (cf (wpAny_field H a (x:=v) rfl (cf (wpAny_field H a (x:=.none) rfl (cg ?_)))))));refine cf (slicePart_none ?_);show wpAny _ _ (if ((1:Int)==0)=true then _ else _) _ _ s;rw[aj (by decide)]
 refine cf (KQ p (cf (KQ P (cf (cg ?_)))));show wpAny _ _ (match Builtin.Slice.sliceAdjust L i 1 (n:Int) with|(L,i)=>pure (L,(1:Int),Builtin.Slice.slicePlaces L i 1)) _ _ s
 rw[EI L i n];show wpAny _ _ (pure (((qk n 0 L:Nat):Int),(1:Int),Builtin.Slice.slicePlaces ((qk n 0 L:Nat):Int) ((qk n n i:Nat):Int) 1)) _ _ s;rw[ED];exact cg h
def Bl (X:Array Value)(i k:Nat):((List.range k).filterMap λ(m:Nat)=>X[((i:Int)+(m:Int) * 1).toNat]?).toArray=((X.toList.drop i).take k).toArray:=by
 have e:(λ(m:Nat)=>X[((i:Int)+(m:Int) * 1).toNat]?)=λm=>X[i+m]?:=by
  funext m
  have:((i:Int)+(m:Int) * 1).toNat=i+m:=by lia
  rw[this]
 rw[e]
 have:=pick_run X i k
 rw[List.filterMap_map]at this;have E:((λx=>X[x]?) ∘ λx=>i+x)=λm=>X[i+m]?:=rfl;rw[E]at this;rw[this]
def IW {t S:Addr}{l v:Value}{L i:bX}(r:IsTup s.heap t items)(d:s.heap.IsSliceOf S l v .none)(p:IsPart l L)(P:IsPart v i)
  (x:¬(qk items.size 0 L=0/\qk items.size items.size i=items.size))
  (h:Q (.ref s.heap.objs.size) { s with heap:=s.heap.push { cls:=.type "tuple",data:=.seq ((items.toList.drop (qk items.size 0 L)).take (qk items.size items.size i-qk items.size 0 L)).toArray } })
  (e:items.size<=sizeLine):wpAny (model prog w) A (getItem (.ref t) (.ref S)) Q E s:=by
 have H:sizeOk (.seq ((items.toList.drop (qk items.size 0 L)).take (qk items.size items.size i-qk items.size 0 L)).toArray):=by show((items.toList.drop (qk items.size 0 L)).take (qk items.size items.size i-qk items.size 0 L)).toArray.size<=sizeLine;rw[aB,bD,bE,length_toList];lia
 have n:qk items.size items.size i<=items.size:=d4 _ _ (aq _) i;obtain⟨u,a,b,f⟩:=id d;have c:s.TypeIs (.ref S) "slice":=⟨u,a,b⟩;unfold getItem
 try with_reducible refine wpAny_holding ?_
 first|refine cf (cg ?_)|skip
 refine cf (wpAny_sequenceKey r.typeIs (by decide) ?_)
 refine cf (wpAny_callSpecial?_slot (name:=Str.ofString "__getitem__") r.typeIs PyProof.Rows.slot_tuple_getitem
  (wpAny_call_entry PyProof.Rows.slot_tuple_getitem r.typeIs entry_tuple_getitem ?_ (args_tuple_getitem _ _)))
 show wpAny _ _ (Builtin.Tuple.tupleItemsOf (.ref t) >>= _) _ _ s;refine cf (tupleItemsOf_ r ?_);refine cf (wpAny_typeOf c ?_);rw[ai (by decide)]
 refine cf (R1 d p P ?_);have o:¬((((qk items.size 0 L:Nat):Int)==0&&(1:Int)==1&&(qk items.size items.size i-qk items.size 0 L)==items.size)=true):=by intro q;rw[ak,ak]at q;have j:((qk items.size 0 L:Nat):Int)=0:=eq_of_beq q.1.1;have g:qk items.size items.size i-qk items.size 0 L=items.size:=eq_of_beq q.2;exact x ⟨by lia,by lia⟩
 show wpAny _ _ (if (((qk items.size 0 L:Nat):Int)==0&&(1:Int)==1&&(qk items.size items.size i-qk items.size 0 L)==items.size)=true then _ else _) _ _ s;rw[aj o,Bl]
 first
  |exact cf (m:=Builtin.Tuple.tupleExact _) (wpAny_newObj_type (cg ⟨_,rfl,cg h⟩) H)
  |exact cf (m:=Builtin.Tuple.tupleExact _) (wpAny_newObj_type (cf (cg (cg ⟨_,rfl,cg h⟩))) H)
  |exact cf (cf (m:=Builtin.Tuple.tupleExact _) (wpAny_newObj_type (cg (cg ⟨_,rfl,cg h⟩)) H))
  |exact cf (cf (m:=Builtin.Tuple.tupleExact _) (wpAny_newObj_type (cg ⟨_,rfl,cg h⟩) H))
end
end HT
namespace L2
open PySem PySem.Spec PyProof.Rows
abbrev TO:=St->Hp->(Option Int->Hp->Prop)->Prop
def PO (X:Cx)(e:Option Expr)(t:TO):Prop:=
 ∀(o5:bS)(s:Shared)(σ:St)(H:Hp)(Q:Option Int->Hp->Prop),Inv X o5 σ H s->t σ H Q->
  wpAny (model X.prog X.w) X.A (evalPart e X.env) (λu S=>∃o h,Inv X o5 σ h S/\IsPart u o/\Q o h) X.xe s
def As:TO:=λ_ H Q=>Q none H
def d6 (t:TE):TO:=λa H Q=>t a H λx h=>∃i,x=.int i/\Q (some i) h
section
variable {te:TE}{lo hi:Option Expr}{tl th:TO}{p2:Pos}
def d7:PO X none As:=by intro p s a H Q I h;rw[evalPart_none];exact cg ⟨none,H,I,.none,h⟩
def d8 (h:PE X e te):PO X (some e) (d6 te):=by intro p s c H Q I d;rw[evalPart_some];refine zR (h p s c H _ I d) λu S ⟨x,f,b,r,a⟩=>?_;obtain⟨i,rfl,q⟩:=a;obtain⟨t,rfl⟩:=r;exact⟨some i,f,b,.int i t,q⟩
def W5 (X:Cx)(r:V->Option Int->Option Int->Hp->VK->Prop):Prop:=
 ∀(o5:bS)(s:Shared)(σ:St)(H:Hp)(x:V)(v l u:Value)(lo hi:bX)(S:Addr)(Q:VK),Inv X o5 σ H s->RelV x v->s.heap.IsSliceOf S l u .none->IsPart l lo->IsPart u hi->r x lo hi H Q->
  ∃T id,typeLookup (.type T) "__getitem__"=pure (some (.builtin id))/\s.TypeIs v T/\wpAny (model X.prog X.w) X.A (getItem v (.ref S)) (EP X o5 σ Q) X.xe s
def d9 (r:V->Option Int->Option Int->Hp->VK->Prop)(T:TE)(t c:TO):TE:=λb H Q=>T b H λx d=>t b d λl a=>c b a λu h=>r x l u h Q
def C4 {r:V->Option Int->Option Int->Hp->VK->Prop}(o:W5 X r)(Y:PE X e te)(t:PO X lo tl)(n:PO X hi th):PE X (.Subscript e (.Slice lo hi none p2) o6) (d9 r te tl th):=by
 intro P s K H Q I h;refine Subscript_ (zR (Y P s K H _ I h) λv M ⟨x,Z,E,f,j⟩=>?_);refine wpAny_Slice (zR (t P M K Z _ E j) λc L ⟨l,J,D,p,i⟩=>zR (n P L K J _ D i) λa S ⟨u,d,C,N,g⟩=>?_);rw[evalPart_none];refine cg ?_;have B:Inv X P K d { S with heap:=S.heap.push { cls:=.type "slice",data:=.fields #[c,a,.none] } }:=C.kept (t':=S.toks) λb ob q=>af _ q
 obtain⟨T,id,hT,U,y⟩:=o P { S with heap:=S.heap.push { cls:=.type "slice",data:=.fields #[c,a,.none] } } K d x v c a l u S.heap.objs.size Q B f (Heap.IsSliceOf.new ..) p N g
 show wpAny (model X.prog X.w) X.A (subscriptTail e (.Slice lo hi none p2) v (.ref S.heap.objs.size)) (EP X P K Q) X.xe { S with heap:=S.heap.push { cls:=.type "slice",data:=.fields #[c,a,.none] } }
 exact tail_any (ops:=[.ref S.heap.objs.size,v]) U hT y (by with_unfolding_all rfl)
def ZI (x:List V)(l h:bX):List V:=(x.drop (HT.qk x.length 0 l)).take (HT.qk x.length x.length h-HT.qk x.length 0 l)
def PZ (x:List V)(l h:bX):(ZI x l h).length<=x.length:=by unfold ZI;rw[bD,bE];lia
def eb (K:Frag):V->Option Int->Option Int->Hp->VK->Prop:=λx l h H Q=>∃a X,x=.ref a/\qz K H a X/\
 ¬(HT.qk X.length 0 l=0/\HT.qk X.length X.length h=X.length)/\∀p,H p=none->Q (.ref p) (upd H p (.tup (ZI X l h)))
def ed:W5 X (eb X.K):=by
 intro P s B H x v l u L c S Q I e g p y h;obtain⟨a,j,rfl,f,A,q⟩:=h;cases e;obtain⟨i,r,t,d⟩:=I.tuple f;have n:i.toArray.size=j.length:=by rw[aB];exact r.length.symm
 refine⟨"tuple",_,PyProof.Rows.slot_tuple_getitem.lookup,t.typeIs,?_⟩;refine HT.IW t g p y (by rw[n];exact A) ?_ (by rw[n];exact d)
 rw[n];refine⟨.ref s.heap.objs.size,_,I.laid (t':=s.toks) (o:=.tup (ZI j L c)) (λb ob q=>af _ q) (aq _) ?_,rfl,q _ (I.hok.fresh (aq _))⟩;exact⟨aZ (PZ j L c) d,_,(r.drop (HT.qk j.length 0 L)).take (HT.qk j.length j.length c-HT.qk j.length 0 L),Z6.new _ _⟩
def M4 (K:Frag):R2:=λx y H Q=>∃a b X Y,x=.ref a/\y=.ref b/\qz K H a X/\qz K H b Y/\X≠[]/\X.length+Y.length<=sizeLine/\
 (Y=[]->Q (.ref a) H)/\(Y≠[]->∀p,H p=none->Q (.ref p) (upd H p (.tup (X++Y))))
def Vals.nil_iff (r:Vals xs us):us=[]↔xs=[]:=by
 cases r with|nil=>simp|cons _ _=>simp
def AA:qS X (binaryOp .Add) (M4 X.K):=by
 intro B s D H x y v u Q I f e h;obtain⟨a,b,C,Y,rfl,rfl,A,t,n,d,j,g⟩:=h;cases f;cases e;obtain⟨l,c,P,_⟩:=I.tuple A;obtain⟨i,r,p,_⟩:=I.tuple t;refine HT.A8 P p (λz=>n (c.nil_iff.mp z)) (λz=>⟨.ref a,H,I,rfl,j (r.nil_iff.mp z)⟩) (λz=>?_) (by rw[<- c.length,<- r.length];exact d)
 refine⟨.ref s.heap.objs.size,_,I.laid (t':=s.toks) (o:=.tup (C++Y)) (λb ob q=>af _ q) (aq _) ?_,rfl,g (λw=>z (r.nil_iff.mpr w)) _ (I.hok.fresh (aq _))⟩;exact⟨by rw[aw];exact d,_,c.append r,Z6.new _ _⟩
end
noncomputable def gu (n:Nat)(i:Int):Option Nat:=if 0<=i then(if i<n then some i.toNat else none) else if -(n:Int)<=i then some (i+n).toNat else none
def gq (x:List α)(i:Int):Option α:=(gu x.length i).bind λj=>x[j]?
def Nr {i:Int}{j:Nat}(h:gu n i=some j):seqIndex? i n=some j/\j<n/\-(n:Int)<=i/\i<n:=by
 unfold gu at h
 by_cases a:0<=i
 ·rw[ai a]at h
  by_cases H:i<n
  ·rw[ai H]at h
   have e:i.toNat=j:=aE h;exact⟨by rw[seqIndex_of a H,e],by lia,by lia,H⟩
  ·rw[aj H]at h;cases h
 ·rw[aj a]at h
  by_cases H:-(n:Int)<=i
  ·rw[ai H]at h
   have e:(i+n).toNat=j:=aE h;exact⟨by rw[seqIndex_neg (by lia) H,e],by lia,H,by lia⟩
  ·rw[aj H]at h;cases h
def Ta {x:List α}{i:Int}{v:α}(h:gq x i=some v):∃j,seqIndex? i x.length=some j/\x[j]? =some v/\j<x.length/\-(x.length:Int)<=i/\i<x.length:=by
 unfold gq at h;cases e:gu x.length i with
 |none=>rw[e]at h;cases h|some j=>
  rw[e]at h;obtain⟨c,b,a,H⟩:=Nr e;exact⟨j,c,h,b,a,H⟩
def Xv {x:List α}{j:Nat}{v:α}(h:x[j]? =some v):gq x (j:Int)=some v:=by
 have H:j<x.length:=(cm.mp h).1;have e:gu x.length (j:Int)=some j:=by unfold gu;rw[ai (by lia),ai (by lia)];simp
 unfold gq;rw[e];exact h
def NZ (b:Expr):Prop:=∀o i,subscripted b false o i=operate [o,i] (getItem o i)
def QM (X:Cx)(r:R2):Prop:=
 ∀(value slice:Expr)(o5:bS)(s:Shared)(σ:St)(H:Hp)(x y:V)(v u:Value)(Q:VK),Inv X o5 σ H s->RelV x v->RelV y u->r x y H Q->
  subscripted slice false v u=operate [v,u] (getItem v u)->wpAny (model X.prog X.w) X.A (subscriptTail value slice v u) (EP X o5 σ Q) X.xe s
def Kr (X:Cx)(id:String)(r:V->List V->Hp->VK->Prop):Prop:=
 ∀(o5:bS)(s:Shared)(σ:St)(H:Hp)(x:V)(xs:List V)(v:Value)(us:bQ)(Q:VK),Inv X o5 σ H s->RelV x v->Vals xs us->r x xs H Q->
  wpAny (model X.prog X.w) X.A (call (.builtin id) (v::us)) (EP X o5 σ Q) X.xe s
section
variable {a b:Expr}{ta tb:TE}
def QM.or {r c:R2}(h:QM X r)(g:QM X c):QM X (λx y H Q=>r x y H Q∨c x y H Q):=by
 intro e S p s f H x y v u Q I b a q d;rcases q with q|q
 ·exact h e S p s f H x y v u Q I b a q d
 ·exact g e S p s f H x y v u Q I b a q d
def ee {r:R2}(f:QM X r)(i:PE X a ta)(g:PE X b tb)(e:NZ b):PE X (.Subscript a b o6) (W7 r ta tb):=by intro p s n H Q I h;exact Subscript_ (Rx i g I h λv u S x y l j d c q=>f a b p S n l x y v u Q j d c q (e _ _))
def LF (K:Frag):R2:=λx y H Q=>∃p X i v,x=.ref p/\y=.int i/\qX K H p X/\gq X i=some v/\Q v H
def Lw (K:Frag):R2:=λx y H Q=>∃p X i v,x=.ref p/\y=.int i/\qz K H p X/\gq X i=some v/\Q v H
def LH:R2:=λx y H Q=>∃z i c,x=.str z/\y=.int i/\z.length<=sizeLine/\gq z.cps.toList i=some c/\Q (.str ⟨#[c]⟩) H
def eg:QM X (LF X.K):=by
 intro L S D s M H x y v u Q I g f h d;obtain⟨p,Z,i,z,rfl,rfl,l,U,q⟩:=h;cases g;obtain⟨t,rfl⟩:=f;obtain⟨b,r,P,B⟩:=I.list l;obtain⟨j,J,Y,C,A,o⟩:=Ta U;obtain⟨w,e,a⟩:=r.get Y;have n:=r.length;have hn:=Y0;have E:EP X D M Q w s:=⟨z,H,I,a,q⟩
 by_cases N:0<=i
 ·have c:i.toNat=j:=by rw[seqIndex_of N o]at J;exact aE J
  exact item_listR P.isList N (by lia) (by rw[c];simpa using e) E d
 ·have c:(i+(b.toArray.size:Int)).toNat=j:=by
   rw[seqIndex_neg (by lia) A]at J
   rw[aB,<- n];exact aE J
  exact subscriptTail_builtinR (x:=w) P.isList.typeIs slot_list_getitem.lookup
   (wpAny_getItem_list_neg (Q:=λr T=>r=w/\EP X D M Q r T) P.isList (by lia) (by rw[aB]<;>lia) (by lia) (by rw[c];simpa using e) ⟨rfl,E⟩) d
def eh:QM X (Lw X.K):=by
 intro C S B s J H x y v u Q I c b h e;obtain⟨p,U,i,z,rfl,rfl,f,M,q⟩:=h;cases c;obtain⟨t,rfl⟩:=b;obtain⟨d,r,P,g⟩:=I.tuple f;obtain⟨j,T,N,A,o,n⟩:=Ta M;obtain⟨w,E,a⟩:=r.get N;have l:=r.length;have Y:=Y0;have D:EP X B J Q w s:=⟨z,H,I,a,q⟩;exact subscriptTail_builtinR (x:=w) P.typeIs slot_tuple_getitem.lookup
  (getItem_tuple (j:=j) (Q:=λr L=>r=w/\EP X B J Q r L) P (by lia) (by lia) (by rw[aB,<- l];exact T) (by simpa using E) ⟨rfl,D⟩) e
def ej:QM X LH:=by
 intro o S p s D H x y v u Q I a r h b;obtain⟨z,i,c,rfl,rfl,g,B,q⟩:=h;obtain⟨t,rfl⟩:=a;obtain⟨T,rfl⟩:=r;obtain⟨j,A,C,n,e,d⟩:=Ta B;have l:z.cps.toList.length=z.length:=by simp[Str.length]
 rw[l]at A e d;have J:=Y0;exact tail_any (typeIs_str s z t) slot_str_getitem.lookup (getItem_str (c:=c) (by
  have f:decide (i < -(2 ^ 63:Int))=false:=aG (by lia)
  have E:decide (i ≥ 2 ^ 63)=false:=aG (by lia)
  rw[f,E,Bool.or_false]) (by rw[A];simpa using C) ⟨.str ⟨#[c]⟩,H,I.tok _,⟨_,rfl⟩,q⟩) b
def Ia (K:Frag):R2:=λx y H Q=>LF K x y H Q∨Lw K x y H Q∨LH x y H Q
def el:QM X (Ia X.K):=eg.or (eh.or ej)
def EZ (i:bQ)(n j:Nat)(u:Value):Obj.mapSeq (·.setIfInBounds j u) { cls:=.type "list",data:=.seq i.toArray n }={ cls:=.type "list",data:=.seq (i.set j u).toArray n }:=by simp[Obj.mapSeq]
theorem Inv.lst {P:bS}{a:St}{H:Hp}{s:Shared}{p:Addr}{x:List V}(I:Inv X P a H s)(h:H p=some (.lst x)):
  ∃(i:bQ) (n:Nat),Vals x i/\s.heap.get? p=some { cls:=.type "list",data:=.seq i.toArray n }/\x.length<=sizeLine:=by
 obtain⟨z,i,n,r,e⟩:=I.hok p _ h;exact⟨i,n,r,e,z⟩
def Inv.lstUpd {s:Shared}{p:Addr}{i:bQ}{N:Nat}{f:Obj->Obj}(I:Inv X o5 σ H s)(h:H p=some (.lst xs))
  (o:s.heap.get? p=some { cls:=.type "list",data:=.seq o9.toArray n })(d:f { cls:=.type "list",data:=.seq o9.toArray n }={ cls:=.type "list",data:=.seq i.toArray N })(r:Vals ys i)(a:ys.length<=sizeLine)(t:Nat):
  Inv X o5 σ (upd H p (.lst ys)) { s with heap:=s.heap.update p f,toks:=t }:=by
 have e:(s.heap.update p f).get? p=some { cls:=.type "list",data:=.seq i.toArray N }:=by rw[Heap.get?_update_self f o (by rw[d]<;>rfl),d]
 refine I.write (x:=p) (e:=p) (by rw[h];trivial) (.inl rfl) (λb u c q=>(bq _ _ (Ne.symm c)).trans q) ⟨_,e⟩ ?_
 exact⟨a,i,N,r,e⟩
def MV:V->V->V->Hp->(Hp->Prop)->Prop:=λo i v H Q=>∃p x k j,o=.ref p/\i=.int k/\H p=some (.lst x)/\gu x.length k=some j/\Q (upd H p (.lst (x.set j v)))
def set_list:Vl X MV:=by
 intro P s K H o i v C D u Q I ro y x h;obtain⟨p,L,k,j,rfl,rfl,d,B,q⟩:=h;cases ro;obtain⟨t,rfl⟩:=y;obtain⟨a,n,r,b,A⟩:=I.lst d;obtain⟨E,N,f,e⟩:=Nr B;have l:=r.length;have M:=Y0;have g:Inv X P K (upd H p (.lst (L.set j v))) { s with heap:=s.heap.update p (Obj.mapSeq (·.setIfInBounds j u)) }:=
  I.lstUpd d b (EZ a n j u) (r.set x j) (by rw[bw];exact A) s.toks
 by_cases J:0<=k
 ·have c:k.toNat=j:=by rw[seqIndex_of J e]at E;exact aE E
  exact PySem.W.ki_setAt b J (by lia) (by rw[aB,<- l];exact e) (by rw[c];exact⟨_,g,q⟩)
 ·have c:(k+(a.toArray.size:Int)).toNat=j:=by
   rw[seqIndex_neg (by lia) f]at E
   rw[aB,<- l];exact aE E
  exact PySem.W.ki_setBack b (by lia) (by rw[aB,<- l];exact f) (by lia) (by rw[c];exact⟨_,g,q⟩)
def F3 (l H:bX)(n:Nat):(sliceBounds l H none n).1=((HT.qk n 0 l:Nat):Int)/\(sliceBounds l H none n).2.1=((HT.qk n n H:Nat):Int)/\(sliceBounds l H none n).2.2=1:=by
 refine⟨?_,?_,rfl⟩
 ·cases l with
  |none=>simp[sliceBounds,HT.qk]|some i=>
   simp only[sliceBounds,HT.qk,getD_none,show(1:Int) > 0 by decide,if_true]
   by_cases h:i<0
   ·simp only[h,if_true]<;>lia
   ·simp only[h,if_false]<;>lia
 ·cases H with
  |none=>simp[sliceBounds,HT.qk]|some i=>
   simp only[sliceBounds,HT.qk,getD_none,show(1:Int) > 0 by decide,if_true]
   by_cases h:i<0
   ·simp only[h,if_true]<;>lia
   ·simp only[h,if_false]<;>lia
def HX (i:bQ)(l h:bX):slicePick i.toArray l h none=((i.drop (HT.qk i.length 0 l)).take (HT.qk i.length i.length h-HT.qk i.length 0 l)).toArray:=by obtain⟨b,a,H⟩:=F3 l h i.toArray.size;unfold slicePick;rw[b,a,H];simp only[sliceRange_one,pick_run,aB]<;>rfl
def LK (K:Frag):V->Option Int->Option Int->Hp->VK->Prop:=λx l h H Q=>∃a X,x=.ref a/\qX K H a X/\∀p,H p=none->Q (.ref p) (upd H p (.lst (ZI X l h)))
def Af:W5 X (LK X.K):=by
 intro P s A H x v l u L i S Q I c g p y h;obtain⟨a,j,rfl,f,q⟩:=h;cases c;obtain⟨d,r,t,e⟩:=I.list f;have n:=r.length;refine⟨"list",_,slot_list_getitem.lookup,t.isList.typeIs,?_⟩;refine wpAny_getItem_list_slice t.isList g p y .none (by simp) ?_ (by rw[aB]<;>lia)
 rw[HX,<- n];refine⟨.ref s.heap.objs.size,_,I.laid (t':=s.toks) (o:=.lst (ZI j L i)) (λb ob q=>af _ q) (aq _) ?_,rfl,q _ (I.hok.fresh (aq _))⟩;exact⟨aZ (PZ j L i) e,_,0,(r.drop (HT.qk j.length 0 L)).take (HT.qk j.length j.length i-HT.qk j.length 0 L),aC _ rfl⟩
noncomputable def wq:V->Bool
 |.non=>true|.bl _=>true|.int _=>true|.str _=>true|_=>false
noncomputable def g9:V->V->Bool
 |.non,.non=>true|.bl a,.bl b=>a==b|.bl a,.int b=>(if a then 1 else 0)==b|.int a,.bl b=>a==(if b then 1 else 0)|.int a,.int b=>a==b|.str a,.str b=>a==b|_,_=>false
def eu {A:Around}{s:Shared}{y x:V}{v:Value}(c:RelV y u)(r:RelV x v)(d:wq y=true)(f:wq x=true):SeqAt.EqAt A s u v (g9 y x):=by
 cases y with
 |non=>
  cases c;cases x with|non=>cases r;exact SeqAt.EqAt.same _|bl b=>cases r;exact SeqAt.EqAt.none_bool b|int b=>obtain⟨t,rfl⟩:=r;exact SeqAt.EqAt.none_int b t|str b=>obtain⟨t,rfl⟩:=r;exact SeqAt.EqAt.none_str b t|_=>exact absurd (show false=true from f) aH
 |bl a=>
  cases c;cases x with|non=>cases r;exact SeqAt.EqAt.bool_none a|bl b=>cases r;exact SeqAt.EqAt.bool_bool a b|int b=>obtain⟨t,rfl⟩:=r;exact SeqAt.EqAt.bool_int a b t|str b=>obtain⟨t,rfl⟩:=r;exact SeqAt.EqAt.bool_str a b t|_=>exact absurd (show false=true from f) aH
 |int a=>
  obtain⟨T,rfl⟩:=c;cases x with|non=>cases r;exact SeqAt.EqAt.int_none a T|bl b=>cases r;exact SeqAt.EqAt.int_bool a T b|int b=>obtain⟨t,rfl⟩:=r;exact SeqAt.EqAt.int_int a T b t|str b=>obtain⟨t,rfl⟩:=r;exact SeqAt.EqAt.int_str a T b t|_=>exact absurd (show false=true from f) aH
 |str a=>
  obtain⟨T,rfl⟩:=c;cases x with|non=>cases r;exact SeqAt.EqAt.str_none a T|bl b=>cases r;exact SeqAt.EqAt.str_bool a T b|int b=>obtain⟨t,rfl⟩:=r;exact SeqAt.EqAt.str_int a T b t|str b=>obtain⟨t,rfl⟩:=r;exact SeqAt.EqAt.str_str a T b t|_=>exact absurd (show false=true from f) aH
 |_=>exact absurd (show false=true from d) aH
def Zp (x:V)(u:Value):Bool:=match u with|.none=>g9 .non x|.bool b=>g9 (.bl b) x|.int i _=>g9 (.int i) x|.str z _=>g9 (.str z) x|_=>false
def So {x y:V}(r:RelV y u)(f:wq y=true):Zp x u=g9 y x:=by
 cases y with|non=>cases r;rfl|bl b=>cases r;rfl|int i=>obtain⟨t,rfl⟩:=r;rfl|str z=>obtain⟨t,rfl⟩:=r;rfl|_=>exact absurd (show false=true from f) aH
theorem Tq {x:V}:∀{X:List V}{U:bQ},Vals X U->X.all wq=true->U.any (Zp x)=X.any λy=>g9 y x
 |_,_,.nil,_=>rfl|y::X,u::U,.cons r t,f=>by rw[bL,ak]at f;rw[any_cons,any_cons,So r f.1,Tq t f.2]
theorem K0 {A:Around}{s:Shared}{x:V}{v:Value}(a:RelV x v)(b:wq x=true):∀{X:List V}{c:bQ},Vals X c->X.all wq=true->∀u∈c,SeqAt.EqAt A s u v (Zp x u)
 |_,_,.nil,_=>λu h=>by cases h|y::X,u::c,.cons r t,f=>λU h=>by
  rw[bL,ak]at f;rcases cn.mp h with rfl|h
  ·rw[So r f.1];exact eu r a f.1 b
  ·exact K0 a b t f.2 U h
def VI (x:V)(X:List V):Bool:=X.any λy=>g9 y x
def Iw (K:Frag)(n:Bool):R2:=λx y H Q=>∃p X,y=.ref p/\(qX K H p X∨qz K H p X)/\wq x=true/\X.all wq=true/\Q (.bl (if n then !VI x X else VI x X)) H
def Co:qS X (compareOp .In) (Iw X.K false):=by
 intro g s j H x y v u Q I b c h;obtain⟨p,l,rfl,a,f,fs,q⟩:=h;cases c;rcases a with a|a
 ·obtain⟨i,r,P,d⟩:=I.list a
  refine SeqAt.in_listAt (Zp x) P.isList (λw e=>K0 b f r fs w (by simpa using e)) ⟨.bl _,H,I,rfl,?_⟩
  rw[show i.toArray.any (Zp x)=i.any (Zp x) by simp,Tq r fs]
  exact q
 ·obtain⟨i,r,P,d⟩:=I.tuple a
  refine SeqAt.in_tupleAt (Zp x) P (λw e=>K0 b f r fs w (by simpa using e)) ⟨.bl _,H,I,rfl,?_⟩
  rw[show i.toArray.any (Zp x)=i.any (Zp x) by simp,Tq r fs]
  exact q
def FE:yw X (.builtin "len") (λxs H Q=>∃p ys,xs=[.ref p]/\(qX X.K H p ys∨qz X.K H p ys)/\Q (.int ys.length) H):=by
 intro d s e H xs U Q I r h;obtain⟨p,ys,rfl,a,q⟩:=h;obtain⟨u,rfl,x⟩:=vals1 r;cases x;have f:=Y0;rcases a with a|a
 ·obtain⟨i,b,P,c⟩:=I.list a
  have n:=b.length;exact Calls.call_len_list P.isList (by simp only[aB]<;>lia) ⟨.int ys.length,H,I.tok _,⟨s.toks+1,by rw[aB,n]⟩,q⟩
 ·obtain⟨i,b,P,c⟩:=I.tuple a
  have n:=b.length;exact len_tuple P (by simp only[aB]<;>lia) ⟨.int ys.length,H,I.tok _,⟨s.toks+1,by rw[aB,n]⟩,q⟩
def FG:yw X (.type "list") (λxs H Q=>∃p ys,xs=[.ref p]/\(qX X.K H p ys∨qz X.K H p ys)/\∀l,H l=none->Q (.ref l) (upd H l (.lst ys))):=by
 intro j s B H xs U Q I r h;obtain⟨p,ys,rfl,f,q⟩:=h;obtain⟨u,rfl,x⟩:=vals1 r;cases x;have v:∀(o9:bQ),Vals ys o9->ys.length<=sizeLine->∀(h':Heap)(c:Nat),(∀b A,s.heap.get? b=some A->h'.get? b=some A)->
   h'.get? s.heap.objs.size=some { cls:=.type "list",dict:=none,data:=.seq o9.toArray c,slots:=#[] }->EP X j B Q (.ref s.heap.objs.size) { s with heap:=h' }:=λo9 a d h' c kp e=>
  ⟨.ref s.heap.objs.size,_,I.laid (t':=s.toks) kp (aq _) (show qV X.prog X.w _ h' _ (.lst ys) from ⟨d,o9,c,a,e⟩),rfl,q _ (I.hok.fresh (aq _))⟩
 rcases f with f|f
 ·obtain⟨o9,a,P,d⟩:=I.list f
  have t:=a.length;obtain⟨o,g,i,n,y⟩:=P.isList;exact call_list_seq p (.inl rfl) g i y (λh' c kp e=>v o9 a d h' c kp e) (by simp only[aB]<;>lia)
 ·obtain⟨o9,a,P,d⟩:=I.tuple f
  have t:=a.length;obtain⟨o,g,i,n,y⟩:=P;exact call_list_seq p (.inr rfl) g i y (λh' c kp e=>v o9 a d h' c kp e) (by simp only[aB]<;>lia)
def HC:yw X (.type "tuple") (λxs H Q=>∃p ys,xs=[.ref p]/\((qX X.K H p ys/\∀l,H l=none->Q (.ref l) (upd H l (.tup ys)))∨(qz X.K H p ys/\Q (.ref p) H))):=by
 intro j s t H xs U Q I r h;obtain⟨p,ys,rfl,h⟩:=h;obtain⟨u,rfl,x⟩:=vals1 r;cases x;rcases h with ⟨c,q⟩|⟨c,q⟩
 ·obtain⟨i,a,P,d⟩:=I.list c
  have v:=a.length;refine call_tuple_list P.isList (λn kp=>?_) (by simp only[aB]<;>lia)
  have f:Inv X j t H { s with heap:=n }:=I.kept (t':=s.toks) kp
  have g:Inv X j t (upd H n.objs.size (.tup ys)) { s with heap:=n.push { cls:=.type "tuple",data:=.seq i.toArray } }:=
   f.laid (t':=s.toks) (λb o e=>af _ e) (aq _) (show qV X.prog X.w _ _ _ (.tup ys) from ⟨d,i,a,Z6.new _ _⟩)
  exact⟨.ref n.objs.size,_,g,rfl,q _ (f.hok.fresh (aq _))⟩
 ·obtain⟨i,a,P,d⟩:=I.tuple c
  exact call_tuple_same P ⟨.ref p,H,I,rfl,q⟩
def VQ (K:Frag)(T:String)(x:V)(H:Hp):Prop:=match x with
 |.str _=>T = "str"
 |.int _=>T = "int"
 |.ref p=>(T = "list" /\ ∃X,qX K H p X)∨(T = "tuple" /\ ∃o,K.lookup p=some o/\o.cls=.type "tuple" /\ o.dict=none)∨
   (T = "dict" /\ ((∃a,H p=some (.dK a))∨∃a,H p=some (.dT a)))∨(T = "set" /\ ∃S n,H p=some (.set S n))
 |_=>False
def ew {s:Shared}{T:String}{x:V}{v:Value}(I:Inv X o5 σ H s)(r:RelV x v)(ty:VQ X.K T x H):
  s.TypeIs v T/\∀a,v=.ref a->∃ob,s.heap.get? a=some ob/\ob.dict=none:=by
 cases x with
 |str z=>
  obtain⟨t,rfl⟩:=r;cases (show T = "str" from ty)
  exact⟨typeIs_str s z t,λ_ e=>nomatch e⟩
 |int i=>
  obtain⟨t,rfl⟩:=r;cases (show T = "int" from ty)
  exact⟨typeIs_int s i t,λ_ e=>nomatch e⟩
 |ref p=>
  cases r;rcases ty with ⟨rfl,j,q⟩|⟨rfl,o,h,d,hd⟩|⟨rfl,h⟩|⟨rfl,S,n,h⟩
  ·obtain⟨b,_,P,_⟩:=I.list q
   refine⟨P.isList.typeIs,λa e=>?_⟩;cases e;obtain⟨o,n,e,c,hd,_⟩:=P;exact⟨o,e,hd⟩
  ·refine⟨⟨o,I.kIn p o h,d⟩,λa e=>?_⟩
   cases e;exact⟨o,I.kIn _ o h,hd⟩
  ·have z:∃o,s.heap.get? p=some o/\o.ExactDict:=by
    rcases h with ⟨g,h⟩|⟨g,h⟩
    ·obtain⟨_,_,_,_,o,_,_,e,f,_⟩:=I.hok p _ h
     exact⟨o,e,f⟩
    ·obtain⟨_,_,_,_,o,_,_,e,f,_⟩:=I.hok p _ h
     exact⟨o,e,f⟩
   obtain⟨o,e,f⟩:=z;refine⟨⟨o,e,f.1⟩,λa E=>?_⟩;cases E;exact⟨o,e,f.2.1⟩
  ·obtain⟨o,_,_,_,e,f,_⟩:=I.hok p _ h
   refine⟨⟨o,e,f.1⟩,λa E=>?_⟩;cases E;exact⟨o,e,f.2.1⟩
 |_=>exact False.elim ty
def eA (K:Frag)(T:String)(r:V->List V->Hp->VK->Prop)(to:TE)(t:TA):TE:=λa H Q=>to a H λx b=>VQ K T x b/\t a b λX h=>r x X h Q
variable {o:Expr}{es:bW}{to:TE}{t:TA}{name:Str}{T id:String}{r:V->List V->Hp->VK->Prop}
def Lo (p:PlainAttrs T)(S:Slot T name id)(y:typeOf (.builtin id)=pure (.type "method_descriptor"))(M:Kr X id r)(l:PE X o to)(u:PA X (e::es) t)
  (b:attributeBase o name X.env (eval o X.env)=eval o X.env:=by rfl)
  (c:((backTo o8 (starEach (e::es) X.env)).all (λx=>!x.1)&&(backToKw o8 (keywordEach [] X.env)).all (λx=>x.1.isSome)
   && decide ((e::es).length+([]:b8).length+(if ([]:b8).isEmpty then 0 else 1)<30))=true:=by rfl)
  (a:(oR.endLine==o8.line)=true:=by rfl)(j:starEach (e::es) X.env=(false,eval e X.env)::starEach es X.env:=by rfl)(n:(backTo o8 (starEach es X.env)).any (·.1)=false:=by rfl):
  PE X (.Call (.Attribute o name oR) (e::es) [] o8) (eA X.K T r to t):=by
 intro P s D H Q I h;refine wpAny_Call_method_late b c a rfl (zR (l P s D H _ I h) λv L ⟨x,Z,i,d,ty,g⟩=>?_);obtain⟨Y,N⟩:=ew i d ty;refine⟨T,id,p,S,y,Y,N,?_⟩;have A:=u o8 P L D Z _ i g;rw[j]at A ⊢;refine Calls.callWith_builtin (by show(false || (backTo o8 (starEach es X.env)).any (·.1))=false;rw[n]<;>rfl) (Calls.evalArgs_plain ?_)
 exact zR A λU J ⟨E,C,B,f,q⟩=>M P J D C x E v U Q B d f q
end
def RH (X:Cx)(id:String)(r:V->List V->Hp->VK->Prop):Prop:=
 ∀(o5:bS)(s:Shared)(σ:St)(H:Hp)(x:V)(xs:List V)(v:Value)(us:bQ)(Q:VK),Inv X o5 σ H s->RelV x v->Vals xs us->r x xs H Q->
  wpAny (model X.prog X.w) X.A (call (.builtin id) (v::us)) (EP X o5 σ Q) X.xe s
def Vals.one {x:V}(h:Vals [x] us):∃u,us=[u]/\RelV x u:=by
 cases h with|cons r t=>cases t;exact⟨_,rfl,r⟩
def Vals.two {x y:V}(h:Vals [x,y] us):∃u v,us=[u,v]/\RelV x u/\RelV y v:=by
 cases h with|cons r t=>exact(Vals.one t).elim λv e=>⟨_,v,by rw[e.1],r,e.2⟩
theorem Vals.zero:∀{u:bQ},Vals [] u->u=[]
 |_,.nil=>rfl
theorem Vals.eraseIdx:∀{x:List V}{u:bQ}(i:Nat),Vals x u->Vals (x.eraseIdx i) (u.eraseIdx i)
 |_,_,_,.nil=>.nil|_,_,0,.cons _ t=>t|_,_,i+1,.cons r t=>.cons r (Vals.eraseIdx i t)
theorem Vals.rep (h:Vals xs us):∀k:Nat,Vals (List.replicate k xs).flatten (List.replicate k us).flatten
 |0=>.nil|k+1=>by rw[a9,a9,a7,a7];exact Vals.append h (Vals.rep h k)
theorem Oi:∀(l:List α)(i:Nat),(l.eraseIdx i).length<=l.length
 |[],_=>aq _|_::_,0=>Nat.le_succ _|_::r,i+1=>Nat.succ_le_succ (Oi r i)
theorem foldl_rep (i:bQ):∀(k:Nat)(a:bQ),
  List.foldl (λx1 x2=>x1++x2) a.toArray (List.replicate k i.toArray)=(a++(List.replicate k i).flatten).toArray
 |0,a=>by simp|k+1,a=>by
  have e:a.toArray++i.toArray=(a++i).toArray:=by simp
  have E:(a++i)++(List.replicate k i).flatten=a++(List.replicate (k+1) i).flatten:=by rw[a9,a7,aP]
  rw[<- E,<- foldl_rep i k (a++i),<- e,a9,List.foldl_cons]
section
variable {s:Shared}{l:Addr}
def Inv.lset {its':bQ}{f:Array Value->Array Value}(I:Inv X o5 σ H s)(c:H l=some (.lst xs))
  (e:s.heap.get? l=some { cls:=.type "list",data:=.seq o9.toArray n })(d:f o9.toArray=its'.toArray)(v:Vals ys its')(h:ys.length<=sizeLine):
  Inv X o5 σ (upd H l (.lst ys)) { s with heap:=s.heap.update l (Obj.mapSeq f),toks:=t' }:=by
 have q:=PySem.IsL.update e f;rw[d]at q;refine I.write (x:=l) (e:=l) (by rw[c];exact trivial) (.inl rfl) (λB u b a=>(bq s.heap (Obj.mapSeq f) (Ne.symm b)).trans a) ⟨_,q⟩ ?_
 exact⟨h,its',_,v,q⟩
def Inv.lnew (I:Inv X o5 σ H s)(v:Vals ys o9)(h:ys.length<=sizeLine):
  Inv X o5 σ (upd H s.heap.objs.size (.lst ys)) { s with heap:=s.heap.push { cls:=.type "list",data:=.seq o9.toArray },toks:=t' }:=
 I.laid (λ_ _ q=>af _ q) (aq _) ⟨h,o9,0,v,aC _ rfl⟩
theorem Inv.fresh (I:Inv X o5 σ H s):H s.heap.objs.size=none:=I.hok.fresh (aq _)
def Inv.lstM (I:Inv X o5 σ H s)(h:H l=some (.lst xs)):xs.length<=sizeLine/\∃(i:bQ) (n:Nat),Vals xs i/\xs.length=i.length/\s.heap.get? l=some { cls:=.type "list",data:=.seq i.toArray n }:=by obtain⟨z,i,n,r,e⟩:=I.hok l _ h;exact⟨z,i,n,r,r.length,e⟩
def OX (h:n<=sizeLine):Builtin.List.listTooLong n=false:=by unfold Builtin.List.listTooLong;exact aG (by lia)
end
section
def eB:V->List V->Hp->VK->Prop:=λx v H Q=>∃l X y,x=.ref l/\v=[y]/\H l=some (.lst X)/\X.length<sizeLine/\Q .non (upd H l (.lst (X++[y])))
def Oq:RH X "list.append" eB:=by
 intro p s j H x t v U Q I b c h;obtain⟨l,o,y,rfl,rfl,a,f,q⟩:=h;cases b;obtain⟨u,rfl,d⟩:=c.one;obtain⟨z,i,n,r,g,e⟩:=I.lstM a;refine call_meets F.slot_list_append ⟨_,e,rfl⟩ F.entry_list_append (F.args_list_append_2 _ _) (PySem.list_append l i.toArray n u (by rw[aB];lia)) ⟨e,?_⟩
 refine⟨.non,_,I.lset (its':=i++[u]) a e (by simp) (r.append (.cons d .nil)) ?_,rfl,q⟩
 rw[aw,aX];lia
def Ae:V->List V->Hp->VK->Prop:=λx v H Q=>∃l b X Z,x=.ref l/\v=[.ref b]/\H l=some (.lst X)/\H b=some (.lst Z)/\X.length+Z.length<=sizeLine/\Q .non (upd H l (.lst (X++Z)))
def Cp:RH X "list.extend" Ae:=by
 intro P s C H x K v U Q I f j h;obtain⟨l,b,J,D,rfl,rfl,d,B,y,q⟩:=h;cases f;obtain⟨u,rfl,o⟩:=j.one;cases o;obtain⟨z,a,n,r,A,e⟩:=I.lstM d;obtain⟨Z,i,N,p,t,E⟩:=I.lstM B;have c:a.toArray.size+i.toArray.size<=sizeLine:=by rw[aB,aB];lia
 have g:¬(!a.toArray.isEmpty&&Builtin.List.listTooLong (a.toArray.size+i.toArray.size))=true:=by rw[OX c,Bool.and_false];exact aH
 refine call_meets F.slot_list_extend ⟨_,e,rfl⟩ F.entry_list_extend (F.args_list_extend_2 _ _)
  (AutoSeq1.list_extend_list_list_0 l a.toArray n b i.toArray N g (by rw[aB];lia) (by lia)) ⟨e,E,?_⟩
 refine⟨.non,_,I.lset (its':=a++i) d e (by simp) (r.append p) ?_,rfl,q⟩
 rw[aw];lia
def eC:V->List V->Hp->VK->Prop:=λx v H Q=>∃l X i k y,x=.ref l/\v=[.int i]/\H l=some (.lst X)/\-(2 ^ 63)<=i/\i<2 ^ 63/\seqIndex? i X.length=some k/\X[k]? =some y/\Q y (upd H l (.lst (X.eraseIdx k)))
def Bx:RH X "list.pop" eC:=by
 intro P s E H x J v U Q I d f h;obtain⟨l,A,i,k,y,rfl,rfl,c,D,C,p,j,q⟩:=h;cases d;obtain⟨u,rfl,g⟩:=f.one;obtain⟨t,rfl⟩:=g;obtain⟨z,a,n,r,o,e⟩:=I.lstM c;obtain⟨w,B,b⟩:=r.get j;refine call_meets F.slot_list_pop ⟨_,e,rfl⟩ F.entry_list_pop (F.args_list_pop_2 _ _)
  (MeetsSeq.list_pop_at l a.toArray n i t k w (fitsIndex_both D C) (by rw[aB,<- o];exact p) (by rw[<- Array.getElem?_toList];exact B) (by rw[aB];lia)) ⟨e,?_⟩
 refine⟨y,_,I.lset (its':=a.eraseIdx k) c e ?_ (r.eraseIdx k) ?_,b,q⟩
 ·show a.toArray.eraseIdxIfInBounds k=(a.eraseIdx k).toArray
  rw[List.eraseIdxIfInBounds_toArray]
 ·have:=Oi A k
  lia
def Ly:R2:=λx y H Q=>∃l b X Z,x=.ref l/\y=.ref b/\H l=some (.lst X)/\H b=some (.lst Z)/\X.length+Z.length<=sizeLine/\∀p,H p=none->Q (.ref p) (upd H p (.lst (X++Z)))
def eD:qS X (binaryOp .Add) Ly:=by
 intro A s C H x y v u Q I d c h;obtain⟨l,b,J,D,rfl,rfl,j,B,p,q⟩:=h;cases d;cases c;obtain⟨z,a,n,r,t,e⟩:=I.lstM j;obtain⟨Z,i,N,f,g,o⟩:=I.lstM B;refine PySem.P.add_list e o ?_ (by rw[aB,aB];lia)
 have E:a.toArray++i.toArray=(a++i).toArray:=by simp
 rw[E];exact⟨.ref _,_,I.lnew (t':=s.toks) (r.append f) (by rw[aw];lia),rfl,q _ I.fresh⟩
def LW:R2:=λx y H Q=>∃l k X,x=.ref l/\y=.int k/\H l=some (.lst X)/\-(2 ^ 63)<=k/\k<2 ^ 63/\X.length * k.toNat<=sizeLine/\
 ∀p,H p=none->Q (.ref p) (upd H p (.lst (List.replicate k.toNat X).flatten))
def len_rep (x:List α)(k:Nat):(List.replicate k x).flatten.length=k * x.length:=by
 induction k with|zero=>simp|succ k i=>rw[a9,a7,aw,i,succ_mul,add_comm]
def eE:qS X (binaryOp .Mult) LW:=by
 intro P s M H x y v u Q I j f h;obtain⟨l,k,N,rfl,rfl,A,K,J,d,q⟩:=h;cases j;obtain⟨t,rfl⟩:=f;obtain⟨z,i,n,r,o,e⟩:=I.lstM A;have C:i.toArray.size * k.toNat<=sizeLine:=by rw[aB,<- o];exact d
 have p:¬i.toArray.size * k.toNat > (2 ^ 63-1)/8:=by
  have:(sizeLine:Nat)<=(2 ^ 63-1)/8:=by decide
  lia
 have c:¬(!Builtin.List.listFitsIndex k)=true:=by rw[fitsIndex_both K J];exact aH
 have g:¬Builtin.List.listTooLong (i.toArray.size * k.toNat)=true:=by rw[OX C];exact aH
 have b:List.foldl (λE D=>E++D) #[] (List.replicate (if i.toArray.isEmpty=true then 0 else k.toNat) i.toArray)=(List.replicate k.toNat i).flatten.toArray:=by
  have L:∀m:Nat,List.foldl (λE D=>E++D) #[] (List.replicate m i.toArray)=(List.replicate m i).flatten.toArray:=λm=>by
   have:=foldl_rep i m []
   rw[bK]at this;exact this
  rw[L];cases i with|nil=>simp|cons a B=>rw[aj (by simp)]
 refine wpAny_binaryOp_repeat_ref (T := "list") (U := "int") (by decide) ⟨_,e,rfl⟩ (λS=>typeIs_int S k t) noFill_list_mul F.fills_int_mul F.slot_int_rmul repeat_list F.slot_int_index.lookup
  (call_meets F.slot_int_rmul (typeIs_int s k t) F.entry_int_rmul (F.args_int_rmul_2 _ _) (int___rmul___int_list k t l i.toArray n)
   ⟨e,rfl,⟨_,e,rfl⟩,call_meets F.slot_list_mul ⟨_,e,rfl⟩ F.entry_list_mul (F.args_list_mul_2 _ _) (AutoListH.list___mul___list_int_3 l i.toArray n k t c p g) ⟨e,?_⟩⟩)
 rw[b];exact⟨.ref _,_,I.lnew (t':=s.toks) (r.rep k.toNat) (by rw[len_rep,mul_comm];exact d),rfl,q _ I.fresh⟩
end
end L2
namespace Att
open PySem PySem.W PySem.Calls PyProof.Rows
def He {P:Params}:∀(N:bP)(v:bQ),WellAll P h v (N.map WData.int)->IntsAre v N:=by
 intro N
 induction N with
 |nil=>
  intro v w;rw[map_nil]at w;cases w;exact .nil
 |cons n N i=>
  intro v w;rw[aR]at w;cases w with
  |cons a b=>
   cases a;exact .cons _ _ (i _ b)
def DK {l:OpenLaw}(x:l.most=some n){P:Params}{A:List WData}{v:bQ}
  (H:l.row.toRowW.claim.pre A=true)(f:WellAll P h v A):
  ∃a vs ns,v=[Value.ref a]/\A=[WData.list (ns.map WData.int)]/\h.get? a=some { cls:=.type "list",data:=.seq vs.toArray }/\IntsAre vs ns/\ns.length<=n:=by
 have g:WShape.hasAll [] A [.list .int]=true:=(pre_splitW H).1;have i:l.pre.holds [] { args:=A }=true:=(pre_splitW H).2;obtain⟨d,r,rfl,B,y⟩:=hasAllW_cons g;obtain rfl:=hasAllW_nil y;obtain⟨X,rfl,t⟩:=hasW_list B;obtain⟨ns,rfl⟩:=items_int t;have u:ns.length<=n:=by
  unfold OpenLaw.pre at i;have e:(WTm.not (.lt (.lit (.int (n:Int))) (.len (.arg 0)))).holds [] { args:=[.list (ns.map .int)] }=true:=by have e:=(holds_andW i).1;rw[x]at e;exact e
  have c:=condW_of e (w_not (w_lt w_lit (w_len_list (w_arg rfl))));rw[ag]at c;refine Nat.le_of_not_lt λq=>?_;have Q:(n:Int)<((ns.length:Nat):Int):=by lia
  first
   |(rw[ay Q]at c;exact absurd c (by decide))
   |(simp at c;lia)
 cases f with
 |cons o j=>
  cases j;cases o with|list p b=>exact⟨_,_,ns,rfl,rfl,p,He ns _ b,u⟩
def D9 (l:OpenLaw)(a:List WData):l.row.toRowW.claim.post a (.bool true) a=true:=
 postW_of (r:=l.row.toRowW) (X:=(true==true))
  (show WShape.has [] (.bool true) .bool=true by first|rfl|decide|simp[WShape.has,WShape.arms,WShape.armsAll])
  (show(WTm.eq .res (.lit (.bool true))).value [] { args:=a,res:=some (.bool true),after:=a }=some (.bool (true==true)) from w_eq_bool (w_res rfl) w_lit) rfl
def Ej {l:OpenLaw}{q:Program}{L:bU}{P:World->Heap->Prop}{d:DefRec}
  (U:l.most=some n)(e:d.params.defaults=[])
  (call:∀(w:World)(b S:Shared)(M T:bY)(fa:Addr)(o:Obj)(Q K E:Value)(a:Addr)(I:bQ)(N:bP),
   Ground q L [] XP w b M T S.heap->P w S.heap->
   S.heap.get? fa=some o->o.data=.func (docDef d.name d.params d.body d.scope Q K E)->S.heap.CodeRec K d.name->M d.name=some (.ref fa)->
   S.heap.get? a=some { cls:=.type "list",data:=.seq I.toArray }->IntsAre I N->N.length<=n->S.gens=#[]->
   codeAny (model l.prog w) callerA (.call (.ref fa) ⟨[.ref a],[]⟩) (λr s'=>r=.ok (.ret (.bool true))/\OldK S.heap s'.heap/\s'.os=S.os/\AllBare s'.gens) S):
  WalkO q L XP P l.row.toRowW d [] (λf I=>PySem.call f I):=by
 intro w b S M T G Y fa o Q K E B kV t Z i D g v args vals as h y j c u;obtain rfl:B=.none:=Dflts.none D e;obtain rfl:kV=.none:=Dflts.noKw D;obtain⟨a,I,N,rfl,rfl,H,C,J⟩:=DK U h c;refine enter_call (codeAny_mono (call w b S M T fa o Q K E a I N G Y t (fd_plain Z) i g H C J v) λr s' p=>?_);obtain⟨rfl,h2,A,x⟩:=p;exact⟨.inl ⟨.bool true,.bool true,[],rfl,λ_=>rfl,.bool true,D9 l _,λ_=>⟨List.Pairwise.nil,λ_ X=>(nomatch X)⟩⟩,h2,A,x⟩
end Att
namespace L2
open PySem PySem.Spec PyProof.Rows
noncomputable abbrev Ii {K:Frag}(_:K.In h):Frag:=K
noncomputable def Zd (s:Stmt):Arguments:=match s with|.FunctionDef _ a _ _ _ _ _ _ _ _=>a|_=>{ posonlyargs:=[],args:=[],vararg:=none,kwonlyargs:=[],kw_defaults:=[],kwarg:=none,defaults:=[] }
noncomputable def jO (s:Stmt):cb:=match s with|.FunctionDef _ _ b _ _ _ _ _ _ _=>b|_=>[]
noncomputable def qc (s:Stmt):Scope:=match s with|.FunctionDef _ _ _ _ _ _ S _ _ _=>S|_=>{ kind:=.function,names:=[],isGenerator:=false,isCoroutine:=false }
abbrev kE:Zy:=λ_ _ _ _ _ _=>False
abbrev E0:XK:=λ_ _ _=>False
def eF:Passes kE X E0:=λ_ _ _ _ _ _ _ h=>h.elim
structure kS (K:Frag)(x qual:Str)(st:Stmt)(f:Addr)(fd:FuncData):Prop where
 ex:∃(oc:Value) (od:b9) (kV doc pm:Value) (an:b9) (cdv ct:Value) (pd:Array (Option Value)),
  fd=fnOf x qual (Zd st) (jO st) (qc st) .none kV doc pm an cdv ct/\K.lookup f=some ⟨oc,od,.func fd,pd⟩/\codeIn K cdv qual=true
 kp:keepIn K (.ref f)=true
section
variable {w:World}{K:Frag}
def kS.ok {i:Stmt}{ps:bU}{k:Nat}{j:Sp}(F:kS K x qual i f fd)(S:k9 N ps (qc i))(len:∀v H Q E,j v H Q E->v.length=ps.length)
  (y:∀(c:Value)(A:Around)(g:bZ)(s:Shared)(H:Hp)(v:List V)(Q:VK)(E:XK),jb k (A.deeper (envOfC qual (qc i) s.heap.objs.size f c))->j v H Q E->
   ∃t,yP (yU kE P w K mg base N qual (qc i) f c A g s H E).nox (jO i) t/\t { nx:=λ_ a=>Q .non a,rt:=Q } (start N v) H):yi P w K mg base kE (k+1) f fd ps j:=by
 obtain⟨e,b,kV,D,n,u,c,ct,o,rfl,l,d⟩:=F.ex;refine S9 l d S len λA g s H v Q E r p=>?_;obtain⟨t,h,q⟩:=y c A g s H v Q E r p;exact⟨t,h.nox,q⟩
def kS.binds {S:Stmt}{ps:bU}(F:kS K x qual S f fd)
  (h:∀(kV D p:Value)(A:b9)(c ct:Value)(u:bQ),u.length=ps.length->bindArgs (fnOf x qual (Zd S) (jO S) (qc S) .none kV D p A c ct) ⟨u,[]⟩=pure (ps.zip u)):Binds K fd ps []:=by
 obtain⟨a,d,kV,D,p,A,c,ct,o,rfl,l,H⟩:=F.ex;exact .all (h kV D p A c ct)
def eG {S:Stmt}{a:Value}{o A:b9}{kV d p C ct:Value}(l:K.lookup f=some ⟨a,o,.func (fnOf x qual (Zd S) (jO S) (qc S) .none kV d p A C ct),pd⟩)
  (c:codeIn K C qual=true)(k:keepIn K (.ref f)=true):kS K x qual S f (fnOf x qual (Zd S) (jO S) (qc S) .none kV d p A C ct):=⟨⟨a,o,kV,d,p,A,C,ct,pd,rfl,l,c⟩,k⟩
end
def eH {A:Around}{k:Nat}(h:jb k A):A.units+1<cLine:=Nat.lt_of_le_of_lt (Nat.add_le_add_left (by decide:1<=64) _) h.units
section
variable {κ:Type}[DecidableEq κ]
noncomputable def kO (a:List (κ×V))(k:κ):Option V:=(a.find? λK=>decide (K.1=k)).map (·.2)
noncomputable def putK (a:List (κ×V))(k:κ)(v:V):List (κ×V):=
 if (a.any λK=>decide (K.1=k))=true then a.map (λK=>if K.1=k then(K.1,v) else K) else a++[(k,v)]
def GU {p:κ×V}{r:List (κ×V)}{k:κ}(e:p.1=k):kO (p::r) k=some p.2:=by simp[kO,find?_cons,e]
def GW {p:κ×V}{r:List (κ×V)}{k:κ}(e:¬p.1=k):kO (p::r) k=kO r k:=by simp[kO,find?_cons,e]
theorem Nj (k:κ):∀kvs:List (κ×V),(kvs.any λK=>decide (K.1=k))=(kO kvs k).isSome
 |[]=>rfl|p::r=>by
  rw[any_cons]
  by_cases e:p.1=k
  ·simp only[GU e,ay e,Bool.true_or,isSome_some]
  ·rw[GW e,aG e,Bool.false_or];exact Nj k r
def Es (K:List (κ×V))(k:κ)(v:V):(putK K k v).length<=K.length+1:=by
 unfold putK
 split
 ·rw[ag];lia
 ·rw[aw,a6,List.length_nil];lia
def CI {K:List (κ×V)}{k:κ}(v:V)(h:kO K k=none):putK K k v=K++[(k,v)]:=by unfold putK;rw[Nj,h];exact aj (by decide)
def KV.val {K:List (κ×V)}{v:List (κ×Value)}(r:KV K v)(k:κ):QG (kO K k) (valueAt v k):=by
 unfold KV at r
 induction r with
 |nil=>exact True.intro|@cons p q ps Q h t i=>
  obtain⟨H,a⟩:=h
  by_cases e:p.1=k
  ·have E:q.1=k:=H.symm.trans e
   have b:valueAt (q::Q) k=some q.2:=by simp[valueAt,find?_cons,E]
   rw[GU e,b];exact a
  ·have E:¬q.1=k:=λz=>e (H.trans z)
   have b:valueAt (q::Q) k=valueAt Q k:=by simp[valueAt,find?_cons,E]
   rw[GW e,b];exact i
theorem KV.any {a:List (κ×V)}{v:List (κ×Value)}(r:KV a v)(k:κ):(a.any λK=>decide (K.1=k))=v.any λK=>decide (K.1=k):=by
 unfold KV at r
 induction r with|nil=>rfl|cons h t i=>rw[any_cons,any_cons,i,h.1]
def KV.repl {b:List (κ×V)}{v:List (κ×Value)}(r:KV b v)(k:κ){y:V}(a:RelV y u):
  KV (b.map λK=>if K.1=k then(K.1,y) else K) (v.map λK=>if K.1=k then(K.1,u) else K):=by
 unfold KV at r ⊢
 induction r with
 |nil=>exact .nil|@cons p q ps Q h t i=>
  rw[aR,aR];refine .cons ?_ i;obtain⟨H,c⟩:=h
  by_cases e:p.1=k
  ·rw[ai e,ai (H.symm.trans e)];exact⟨H,a⟩
  ·rw[aj e,aj (λz=>e (H.trans z))];exact⟨H,c⟩
def KV.put {b:List (κ×V)}{v:List (κ×Value)}(r:KV b v)(k:κ){y:V}(a:RelV y u):KV (putK b k y) (stored v k u):=by
 unfold putK stored;rw[r.any k]
 by_cases e:(v.any λK=>decide (K.1=k))=true
 ·rw[ai e,ai e];exact r.repl k a
 ·rw[aj e,aj e];exact Paired.snoc r ⟨rfl,a⟩
theorem KV.length {K:List (κ×V)}{v:List (κ×Value)}(r:KV K v):K.length=v.length:=Paired.length r
end
def Sv {w:World}{k:Key}(r:RelV (kV k) u):(kI P w).is k u=true:=by
 cases k with|inl i=>obtain⟨t,e⟩:=(show ∃t,u=Value.int i t from r);subst e;exact Ep P w i t|inr x=>obtain⟨t,e⟩:=(show ∃t,u=Value.str x t from r);subst e;exact Ew P w x t
theorem Oy {w:World}:∀{K:List Key}{u:bQ},Vals (K.map kV) u->ItemsAre (kI P w) K u
 |[],_,r=>by rw[map_nil]at r;cases r;exact .nil|k::K,_,r=>by
  rw[aR]at r;cases r with|cons h t=>exact .cons (Sv h) (Oy t)
abbrev KT (H:Hp):List (List Key×V)->List (List Key×Addr×Value)->Prop:=Paired λp q=>p.1=q.1/\H q.2.1=some (.tup (p.1.map kV))/\RelV p.2 q.2.2
def KT.val {K:List (List Key×V)}{x:List (List Key×Addr×Value)}(r:KT H K x)(k:List Key):QG (kO K k) ((atKey x k).map (·.2)):=by
 induction r with
 |nil=>exact True.intro|@cons p q ps Q h t i=>
  obtain⟨a,_,c⟩:=h
  by_cases e:p.1=k
  ·have E:q.1=k:=a.symm.trans e
   have b:atKey (q::Q) k=some q.2:=by simp[atKey,find?_cons,E]
   rw[GU e,b];exact c
  ·have E:¬q.1=k:=λz=>e (a.trans z)
   have b:atKey (q::Q) k=atKey Q k:=by simp[atKey,find?_cons,E]
   rw[GW e,b];exact i
section
variable {w:World}
def Ln {u:HO}(ok:jd P w H h)(e:Rd H a u):qV P w H h a u:=e.ok ok
def Su (ok:jd P w H h)(e:Rd H a (.dK kvs)):kvs.length<=sizeLine/\(a==sysModules)=false/\∃vs,KV kvs vs/\h.DictOf (kI P w) a vs:=
 show qV P w H h a (.dK kvs) from Ln ok e
def Li (ok:jd P w H h)(e:H a=some (.dK kvs)):kvs.length<=sizeLine/\(a==sysModules)=false/\∃vs,KV kvs vs/\h.DictOf (kI P w) a vs:=Su ok (.inl e)
def MR {K:List Key}(ok:jd P w H h)(e:H a=some (.tup (K.map kV))):(tupleKind (kI P w)).is h K a:=by
 obtain⟨_,i,r,o,d,c,n,b⟩:=(show qV P w H h a (.tup (K.map kV)) from ok a _ e)
 exact⟨o,i.toArray,n,d,c.1,b,by simpa using Oy r⟩
def M6 {K:List (List Key×V)}(ok:jd P w H h)(e:Rd H a (.dT K)):K.length<=sizeLine/\(a==sysModules)=false/\
  ∃xs,KT H K xs/\h.DictOfH (tupleKind (kI P w)) a xs:=by
 obtain⟨z,y,xs,r,o,E,j,u,n,g,f,d⟩:=(show qV P w H h a (.dT K) from Ln ok e)
 refine⟨z,y,xs,r,o,E,j,u,n,g,f,λx b=>?_,d⟩;have all:∀{l:List (List Key×V)}{m:List (List Key×Addr×Value)},KT H l m->∀x∈m,(tupleKind (kI P w)).is h x.1 x.2.1:=by
  intro l m q
  induction q with
  |nil=>intro x b;exact nomatch b
  |@cons p q ps Q c t i=>
   intro x b;rcases cn.mp b with e|b
   ·subst e
    exact MR ok (by rw[<- c.1];exact c.2.1)
   ·exact i x b
 exact all r x b
end
def Kg (H:Hp)(a:Addr)(y:V)(r:Option V):Prop:=
 (∃K k,Rd H a (.dK K)/\y=kV k/\r=kO K k)∨∃K k b,Rd H a (.dT K)/\y=.ref b/\H b=some (.tup (k.map kV))/\r=kO K k
theorem Kg.k {k:Key}(e:H a=some (.dK kvs)):Kg H a (kV k) (kO kvs k):=.inl ⟨kvs,k,.inl e,rfl,rfl⟩
section
variable {s:Shared}{y:V}{o:Option V}{A:Around}
def Inv.big (I:Inv X o5 σ H s):sysModules<s.heap.objs.size:=by have h:mainGlobals<s.heap.objs.size:=(I.mod.glob.keeps I.bk).lt;exact lt_trans (by decide) h
def Dz (j:A.units+1<cLine)(I:Inv X o5 σ H s)(g:Kg H a y (some v))(i:RelV y u)(h:∀c s',Inv X o5 σ H s'->RelV v c->Q c s'):
  wpAny (model X.prog X.w) A (getItem (.ref a) u) Q E s:=by
 rcases g with ⟨K,k,e,f,l⟩|⟨K,k,b,e,f,q,l⟩
 ·subst f
  obtain⟨z,J,C,t,D⟩:=Su I.hok e;obtain⟨c,x,r⟩:=QG.some_of (v:=v) (o:=valueAt C k) (by rw[l];exact t.val k)
  exact wpAny_getItem_of (Sv i) D.mapOf x (h c _ (I.tok _) r)
 ·subst f
  cases (show u=Value.ref b from i)
  obtain⟨z,J,B,t,D⟩:=M6 I.hok e;obtain⟨c,x,r⟩:=QG.some_of (v:=v) (o:=(atKey B k).map (·.2)) (by rw[l];exact t.val k)
  obtain⟨p,n,d⟩:=Option.map_eq_some_iff.mp x;refine wpAny_getItem_heap (tupleKind_room_in1 j) (MR I.hok q) D n ?_;rw[d];exact h c _ (I.tok _) r
def eI {ob:HO}(I:Inv X o5 σ H s)(M:W6 (H a))(h:Heap.SameBut a s.heap h')(d:∃q,h'.get? a=some q)(new:qV X.prog X.w (upd H a ob) h' a ob):
  Inv X o5 σ (upd H a ob) { s with heap:=h',toks:=t' }:=
 I.write (x:=a) (e:=a) M (.inl rfl) (λb q c z=>(h.2 b c).trans z) d new
def eJ {w:World}{H:Hp}{v:List (Key×Value)}(z:kvs.length<=sizeLine)(h:(a==sysModules)=false)(r:KV kvs v)(d:h'.DictOf (kI P w) a v):
  qV P w H h' a (.dK kvs):=⟨z,h,v,r,d⟩
end
def Rl (i:Expr):Prop:=∀o I,subscripted i false o I=operate [o,I] (getItem o I)
def eK {p:Program}{w:World}{A:Around}{s:Shared}{v f:Expr}{T id:String}
  (l:typeLookup (.type T) "__getitem__"=pure (some (.builtin id)))(e:Rl f)
  (h:wpAny (model p w) A (eval v env) (λo b=>wpAny (model p w) A (eval f env) (λi S=>S.TypeIs o T/\wpAny (model p w) A (getItem o i) Q E S) E b) E s):
  wpAny (model p w) A (eval (.Subscript v f o6) env) Q E s:=by
 refine Subscript_ (wpAny_mono h (λo b d=>wpAny_mono d (λi S H=>?_) λ_ _ x=>x) λ_ _ x=>x);obtain⟨hT,H⟩:=H;unfold subscriptTail;refine cf ?_;rw[getitemInPython_of_ne hT.not_modules];refine cf (wpAny_specialOf hT l ?_);have n:wpAny (model p w) A (subscripted f false o i) (λr a=>wpAny (model p w) A (letTemporaryGo v o r >>= λ_=>pure r) Q E a) E S:=by rw[e o i];exact wpAny_operating (wpAny_mono H (λr a c=>cf (wpAny_letTemporaryGo (cg c))) λ_ _ x=>x)
 first
  |exact cg (cf n)
  |exact cf (cg (cf n))
  |exact cf n
def Ez {s:Shared}{y:V}{o:Option V}(I:Inv X o5 σ H s)(g:Kg H a y o):s.TypeIs (.ref a) "dict":=by
 rcases g with ⟨K,k,e,_,_⟩|⟨K,k,b,e,_,_,_⟩
 ·obtain⟨_,_,v,_,d⟩:=Su I.hok e
  exact d.typeIs
 ·obtain⟨_,_,x,_,d⟩:=M6 I.hok e
  exact d.typeIs
def eM (td ty:TE):TE:=λb H Q=>td b H λx c=>ty b c λy h=>∃a v,x=.ref a/\Kg h a y (some v)/\Q v h
section
variable {o i:Expr}{td ty:TE}
def AI (f:X.A.units+1<cLine)(l:PE X o td)(n:PE X i ty)(j:Rl i):PE X (.Subscript o i o6) (eM td ty):=by intro P s E H Q I h;refine eK PySem.F.slot_dict_getitem.lookup j (zR (l P s E H _ I h) λu S ⟨x,K,t,d,e⟩=>zR (n P S E K _ t e) λD M ⟨y,B,b,c,a,v,J,g,q⟩=>?_);subst J;obtain rfl:u=Value.ref a:=d;exact⟨Ez b g,Dz f b g c λC L p r=>⟨v,B,p,r,q⟩⟩
end
def Bk {w:World}(h:Heap)(b:sysModules<h.objs.size):qV P w H (h.push { cls:=.type "dict",data:=.dict #[] }) h.objs.size (.dK []):=
 ⟨zero_le _,beq_eq_false_iff_ne.mpr (Ne.symm (aO b)),[],.nil,Heap.DictOf.new h⟩
def eN:TE:=λ_ H Q=>∀p,H p=none->Q (.ref p) (upd H p (.dK []))
section
def BV:PE X (.Dict [] [] o6) eN:=λp s b H Q I h=>
 wpAny_Dict_empty ⟨.ref s.heap.objs.size,_,I.laid (a:=s.heap.objs.size) (o:=.dK []) (t':=s.toks) (λ_ _ q=>af _ q) (aq _) (Bk s.heap I.big),rfl,h _ (I.hok.fresh (aq _))⟩
end
noncomputable def kK (e:Env):List (Str×NameKind)->List (Str×Addr)->List (Str×Addr)
 |[],acc=>acc|(n,k)::r,acc=>kK e r (if k==.free then(n,(e.cells.lookup n).getD 0)::acc else acc)
def Bj (f:Str×NameKind->List (Str×Addr)->Sem (ForInStep (b0)))
  (l:∀n k r,f (n,k) r=if (k==NameKind.free)=true then(do let c <- cellOf env n;pure (ForInStep.yield ((n,c)::r))) else pure (ForInStep.yield r)):
  ∀(N:List (Str×NameKind))(A:b0),(∀y∈N,y.2=.free->∃c,env.cells.lookup y.1=some c)->(forIn N A f:Sem (b0))=pure (kK env N A):=by
 intro N
 induction N with
 |nil=>intro A _;rfl|cons y r i=>
  intro A b;obtain⟨n,k⟩:=y;rw[forIn_cons,l];unfold kK;have h:=i (if k==.free then(n,(env.cells.lookup n).getD 0)::A else A) (λy g=>b y (az _ g))
  by_cases a:k=.free
  ·subst a
   obtain⟨c,d⟩:=b (n,.free) aF rfl;have e:cellOf env n=pure c:=by unfold cellOf;rw[d]
   have H:List.lookup n env.cells=some c:=d;simp only[e,H,Option.getD_some,bM,if_true]at h ⊢;exact h
  ·have j:(k==NameKind.free)=false:=by simpa using a
   simp only[j,false_eq_true,if_false]at h ⊢;exact h
def Oa (h:∀y∈scope.names,y.2=.free->∃c,env.cells.lookup y.1=some c):closureFor scope env=pure (kK env scope.names []):=by
 unfold closureFor;dsimp only;rw[Bj _ (λn k r=>rfl) scope.names [] h]
 rfl
theorem Jv {n:Str}:∀(N:List (Str×NameKind))(a:b0),(n,c)∈kK env N a->(n,c)∈a∨((n,NameKind.free)∈N/\c=(env.cells.lookup n).getD 0)
 |[],a,h=>.inl h|(x,k)::r,a,h=>by
  unfold kK at h;rcases Jv r _ h with h|⟨h1,h2⟩
  ·by_cases H:k=.free
   ·subst H
    simp only[bM,if_true]at h;rcases cn.mp h with e|h
    ·cases e;exact .inr ⟨aF,rfl⟩
    ·exact .inl h
   ·have b:(k==NameKind.free)=false:=by simpa using H
    simp only[b,false_eq_true,if_false]at h;exact .inl h
  ·exact .inr ⟨az _ h1,h2⟩
theorem GI {n:Str}:∀(N:List (Str×NameKind))(A:b0),((n,NameKind.free)∈N∨(A.lookup n).isSome=true)->((kK env N A).lookup n).isSome=true
 |[],A,h=>by
  rcases h with h|h
  ·cases h
  ·exact h
 |(x,k)::r,A,h=>by
  unfold kK;refine GI r _ ?_;rcases h with h|h
  ·rcases cn.mp h with e|h
   ·cases e
    right
    simp
   ·exact .inl h
  ·right
   by_cases H:(k==NameKind.free)=true
   ·rw[ai H,bC]
    cases a:n==x
    ·exact h
    ·rfl
   ·rw[aj H];exact h
theorem Ul {n:Str}:∀(N:List (Str×NameKind))(k:Nat)(A:b0),(n,c)∈cellsFrom k N A->(n,c)∈A∨(k<=c/\(n,NameKind.cell)∈N)
 |[],_,_,h=>.inl h|(x,q)::r,k,A,h=>by
  unfold cellsFrom at h
  by_cases a:(q==NameKind.cell)=true
  ·rw[ai a]at h
   have H:q=.cell:=by simpa using a
   rcases Ul r _ _ h with h|⟨h1,h2⟩
   ·rcases cn.mp h with e|h
    ·cases e;subst H;exact .inr ⟨aq _,aF⟩
    ·exact .inl h
   ·exact .inr ⟨by lia,az _ h2⟩
  ·rw[aj a]at h
   rcases Ul r _ _ h with h|⟨h1,h2⟩
   ·exact .inl h
   ·exact .inr ⟨h1,az _ h2⟩
theorem Uo:∀(b:List (Str×NameKind))(k:Nat)(A:b0),(∀n c,(n,c)∈A->c<k)->(∀n N c,(n,c)∈A->(N,c)∈A->n=N)->∀n N c,(n,c)∈cellsFrom k b A->(N,c)∈cellsFrom k b A->n=N
 |[],_,_,_,hi,n,N,c,h,h'=>hi n N c h h'|(x,q)::r,k,A,l,hi,n,N,c,h,h'=>by
  unfold cellsFrom at h h'
  by_cases a:(q==NameKind.cell)=true
  ·rw[ai a]at h h'
   refine Uo r (k+1) ((x,k)::A) (λm d f=>?_) (λm M d f H=>?_) n N c h h'
   ·rcases cn.mp f with e|f
    ·cases e;exact bx _
    ·exact bc (l m d f)
   ·rcases cn.mp f with e|f
    ·rcases cn.mp H with E|H
     ·cases e;cases E;rfl
     ·cases e;exact absurd (l M _ H) (aT _)
    ·rcases cn.mp H with E|H
     ·cases E;exact absurd (l m _ f) (aT _)
     ·exact hi m M d f H
  ·rw[aj a]at h h'
   exact Uo r k A l hi n N c h h'
theorem V3 {n:Str}:∀(N:List (Str×NameKind))(h:Heap)(a:b0),(n,c)∈cellsFrom h.objs.size N a->(n,c)∈a∨(pushCells h N).IsCell c none
 |[],_,_,q=>.inl q|(x,k)::r,h,a,q=>by
  unfold cellsFrom at q;unfold pushCells
  by_cases H:(k==NameKind.cell)=true
  ·rw[ai H]at q ⊢
   have:=V3 r (h.push { cls:=.type "cell",data:=.cell none }) ((x,h.objs.size)::a) (by rw[bj];exact q)
   rcases this with z|z
   ·rcases cn.mp z with e|z
    ·cases e
     exact .inr ⟨_,pushCells_keeps r _ _ _ (aC _ rfl),rfl⟩
    ·exact .inl z
   ·exact .inr z
  ·rw[aj H]at q ⊢
   exact V3 r h a q
def IU {A:Around}{s:Shared}{globals:Addr}{cl:b0}{Q:Env->Shared->Prop}
  (h:Q { scope,locals:=s.heap.objs.size,globals,cells:=cellsFrom (s.heap.objs.size+1) scope.names cl,qual,func:=none,code:=env.code,frame:=env.frame,builtins:=env.builtins }
   { s with heap:=pushCells (s.heap.push { cls:=.type "dict",data:=.dict #[] }) scope.names }):
  wpAny M A (newFunctionEnv scope globals cl [] qual none .none (some env)) Q E s:=by
 simp only[newFunctionEnv,isSome_some,if_true];refine cf (wpAny_alloc ?_);refine cf (wpAny_layCells _ (λn K c=>by cases H:K==NameKind.cell<;>simp[H]) _ _ _ _ ?_)
 rw[show({ s with heap:=s.heap.push { cls:=.type "dict",data:=.dict #[] } }:Shared).heap.objs.size=s.heap.objs.size+1 from bj ..]
 rw[forIn_nil];exact cf (cg (cg h))
def jA (X:Cx)(N:bU)(scope:Scope)(s:Shared)(H:Hp)(f:bR)(e:bV):Cx where
 prog:=X.prog
 w:=X.w
 K:=X.K
 mg:=X.mg
 base:=X.base
 A:=X.A
 N:=N
 s0:=s
 H0:=H
 env:={ scope:=relabel scope X.env,locals:=s.heap.objs.size,globals:=X.env.globals,cells:=cellsFrom (s.heap.objs.size+1) scope.names (kK X.env scope.names []),qual:=X.env.qual,func:=none,code:=X.env.code,frame:=X.env.frame,builtins:=X.env.builtins }
 outer:=X.stack
 stack:=X.stack
 ex:=f
 fn:=λx=>scope.names.lookup x==some .local || scope.names.lookup x==some .cell
 calm:=X.calm
 pn:=[]
 xe:=e
structure gE (X:Cx)(scope:Scope):Prop where
 kind:scope.kind=.function
 nd:(scope.names.map (·.1)).Nodup
 free:∀y∈scope.names,y.2=.free->X.env.kindOf y.1=some .cell∨X.env.kindOf y.1=some .free
theorem Yh {k:α}:∀{l:List (Str×α)},(l.map (·.1)).Nodup->(x,k)∈l->l.lookup x=some k
 |(y,q)::r,nd,h=>by
  rw[aR,List.nodup_cons]at nd;rw[bC];rcases cn.mp h with e|h
  ·cases e;simp
  ·have n:(x==y)=false:=by
    rw[beq_eq_false_iff_ne];intro e
    apply nd.1
    rw[<- e];exact List.mem_map_of_mem (f:=(·.1)) h
   rw[n];exact Yh nd.2 h
def V4 {k:NameKind}(h:(relabel scope env).names.lookup x=some k):scope.names.lookup x=some k∨(k=.cell/\scope.names.lookup x=some .free/\env.kindOf x=some .cell):=by
 unfold relabel at h;dsimp only at h;generalize scope.names=names at h ⊢
 induction names with
 |nil=>cases h|cons y r i=>
  obtain⟨n,q⟩:=y;rw[aR]at h;have split:(if (q==NameKind.free&&env.scope.kind==.function&&env.kindOf n==some .cell)=true then(n,NameKind.cell) else(n,q)).1=n:=by split<;>rfl
  rw[bC]at h ⊢;dsimp only at h;rw[split]at h;cases a:x==n with
  |false=>rw[a]at h;exact i h|true=>
   rw[a]at h;have e:x=n:=aL.mp a;subst e
   by_cases H:(q==NameKind.free&&env.scope.kind==.function&&env.kindOf x==some .cell)=true
   ·rw[ai H]at h
    simp only[ak,aL]at H;cases h
    right
    exact⟨rfl,by rw[H.1.1],H.2⟩
   ·rw[aj H]at h
    left
    exact h
section
variable {s:Shared}
def Inv.capt (I:Inv X o5 σ H s)(S:gE X scope)(h:(x,NameKind.free)∈scope.names):∃c,X.env.cells.lookup x=some c:=I.ok.has x (S.free _ h rfl)
def YJ (I:Inv X o5 σ H s)(S:gE X scope)(h:(x,c)∈cellsFrom (s.heap.objs.size+1) scope.names (kK X.env scope.names [])):
  ((x,NameKind.free)∈scope.names/\X.env.cells.lookup x=some c/\c<s.heap.objs.size)∨((x,NameKind.cell)∈scope.names/\s.heap.objs.size<c/\∀f:Heap,f.objs.size=s.heap.objs.size+1->(pushCells f scope.names).IsCell c none):=by
 rcases Ul _ _ _ h with d|⟨d,h2⟩
 ·left
  rcases Jv _ _ d with z|⟨z,e⟩
  ·cases z
  ·obtain⟨C,a⟩:=I.capt S z
   rw[a]at e;have E:c=C:=e;subst E;obtain⟨v,q⟩:=I.cell x c a;exact⟨z,a,q.lt⟩
 ·right
  refine⟨h2,d,λf b=>?_⟩;have g:=h;rw[<- b]at g;rcases V3 _ f _ g with z|z
  ·exfalso
   rcases Jv _ _ z with z|⟨z,e⟩
   ·cases z
   ·obtain⟨C,a⟩:=I.capt S z
    rw[a]at e;have E:c=C:=e;subst E;obtain⟨v,q⟩:=I.cell x c a;exact aT _ (aK (bc q.lt) d)
  ·exact z
def CM {xe:bV}{f:St}(I:Inv X o5 σ H s)(S:gE X scope)(hf:∀b∈fp,wL X o5 H b)(B:∀b∈fp,b<s.heap.objs.size)(hl:f.length=N.length)
  (hs:∀(j:Nat)(x:Str)(v:V),N[j]? =some x->f[j]? =some (some v)->(x,NameKind.free)∈scope.names/\∃i:Nat,X.N[i]? =some x/\σ[i]? =some (some v)):
  Inv (jA X N scope s H fp xe) [] f H { s with heap:=pushCells (s.heap.push { cls:=.type "dict",data:=.dict #[] }) scope.names }:=by
 have M:∀b o,s.heap.get? b=some o->(pushCells (s.heap.push { cls:=.type "dict",data:=.dict #[] }) scope.names).get? b=some o:=λb o e=>pushCells_keeps _ _ _ _ (af _ e);have T:(s.heap.push { cls:=.type "dict",data:=.dict #[] }).objs.size=s.heap.objs.size+1:=bj ..;have l:∀{x:Str}{c:Addr},(jA X N scope s H fp xe).env.cells.lookup x=some c->(x,c)∈cellsFrom (s.heap.objs.size+1) scope.names (kK X.env scope.names []):=λh=>PySem.mem_of_lookup h;have L:∀{x:Str},((jA X N scope s H fp xe).env.kindOf x=some .cell∨(jA X N scope s H fp xe).env.kindOf x=some .free)->∃c,(jA X N scope s H fp xe).env.cells.lookup x=some c:=λ {x} h=>by
  refine Option.isSome_iff_exists.mp (cellsFrom_some _ _ _ ?_);have two:scope.names.lookup x=some .cell∨scope.names.lookup x=some .free:=by
   rcases h with h|h
   ·rcases V4 h with z|⟨_,z,_⟩
    ·exact .inl z
    ·exact .inr z
   ·rcases V4 h with z|⟨z,_⟩
    ·exact .inr z
    ·cases z
  rcases two with z|z
  ·exact .inl z
  ·exact .inr (GI _ _ (.inl (PySem.mem_of_lookup z)))
 have exP:∀b∈fp,∀x c,(jA X N scope s H fp xe).env.cells.lookup x=some c->c≠b:=λb a x c e=>by
  rcases YJ I S (l e) with ⟨_,q,_⟩|⟨_,q,_⟩
  ·exact(hf b a).2.2.2.2.1 x c q
  ·intro z;subst z;exact aT _ (lt_trans q (B _ a))
 refine⟨⟨I.ok.mod,S.kind,I.ok.glob,I.ok.blt,aq _,λx y c h1 h2=>?_,λx h=>L h,λx c g h=>?_,I.ok.hd,I.ok.frames,.inl rfl,λb a=>⟨?_,exP b a⟩,I.bs,aZ I.ok.bsz I.sz,λb o e a=>?_,λb a z=>?_,I.stack,I.stkFree⟩,
  rfl,I.bare,Un.kept M,⟨λ_=>none,?_,λj x v h1 h2 h3=>?_⟩,λx c e=>?_,I.fresh,λx c e=>?_,λp hp=>?_,I.hok.kept M,hl⟩
 ·refine Uo _ _ _ (λn c h=>?_) (λn n' c h h'=>?_) x y c (l h1) (l h2)
  ·rcases Jv _ _ h with z|⟨z,e⟩
   ·cases z
   ·obtain⟨c',E⟩:=I.capt S z
    rw[E]at e;have P:c=c':=e;subst P;obtain⟨v,q⟩:=I.cell n c E;exact bc q.lt
  ·rcases Jv _ _ h with z|⟨z,e⟩
   ·cases z
   ·rcases Jv _ _ h' with Z|⟨Z,P⟩
    ·cases Z
    ·obtain⟨d,hd⟩:=I.capt S z
     obtain⟨d',C⟩:=I.capt S Z;rw[hd]at e;rw[C]at P;have K:c=d:=e;have e2:c=d':=P;subst K;subst e2;exact I.ok.inj _ _ _ hd C
 ·rcases YJ I S (l h) with ⟨z,_,_⟩|⟨_,z,_⟩
  ·exfalso
   have K:=Yh S.nd z;have t:(scope.names.lookup x==some .local || scope.names.lookup x==some .cell)=true:=g;rw[K]at t;cases t
  ·exact bI z
 ·exact aO (B b a)
 ·obtain⟨_,_,_,J,_⟩:=hf b a
  rcases J with J|J
  ·exact I.ok.noex b o e J
  ·exact absurd (aK (aM e) (aZ I.ok.bsz J)) (aT _)
 ·obtain⟨_,h2,h3,_⟩:=hf b a
  rcases cn.mp (I.stkSub b z) with e|e
  ·exact h2 e
  ·exact h3 e
 ·exact(Heap.Ns.new s.heap (.type "dict")).keeps (pushCells_keeps _ _)
 ·obtain⟨g,i,K,e2⟩:=hs j x v h1 h2
  obtain⟨m,hn,Y⟩:=I.loc;have Q:WW X.env.scope x:=.inr (S.free _ g rfl);obtain⟨u,r,lk⟩:=Y i x v K e2 Q;refine⟨u,r,.inr ?_⟩;have A:(jA X N scope s H fp xe).env.kindOf x=some .cell∨(jA X N scope s H fp xe).env.kindOf x=some .free:=by
   rcases h3 with z|z|z
   ·exfalso
    rcases V4 z with Z|⟨Z,_⟩
    ·rw[Yh S.nd g]at Z;cases Z
    ·cases Z
   ·exact .inl z
   ·exact .inr z
  refine⟨A,?_⟩;obtain⟨c,E⟩:=L A;refine⟨c,E,?_⟩;rcases YJ I S (l E) with ⟨_,q,_⟩|⟨q,_,_⟩
  ·rcases lk with ⟨z,_⟩|⟨_,c',D,cell⟩
   ·exfalso
    rcases S.free _ g rfl with k|k<;>(rw[k]at z;cases z)
   ·rw[q]at D;cases D
    exact cell.keeps M
  ·exfalso
   have a1:=Yh S.nd g;have a2:=Yh S.nd q;rw[a1]at a2;cases a2
 ·rcases YJ I S (l e) with ⟨_,q,_⟩|⟨_,_,q⟩
  ·obtain⟨v,z⟩:=I.cell x c q
   exact⟨v,z.keeps M⟩
  ·exact⟨_,q _ T⟩
 ·rcases YJ I S (l e) with ⟨_,q,_⟩|⟨_,q,_⟩
  ·exact I.freeC x c q
  ·exact I.hok.fresh (bI q)
 ·have U:p∈([]:bS):=hp
  cases U
end
abbrev Za:=Addr->St->Hp->(St->Hp->Prop)->Prop
noncomputable def WE (E:Expr)(g:List Comprehension)(S:Scope)(p:Pos)(d:Nat)(a:Value)(e:Env)(k:Sem Fin):Sem Fin:=
 match g[d+1]? with
 |some b=>do
  let x <- eval b.iter e
  standAt b.iter.pos
  let x <- foldedSetIterable b.iter e x
  let _ <- runOwn (.compStart (.ListComp E g S p) (d+1) (<- holding [x] (pyIter x)) a e) e
  k
 |none=>do
  (do let _ <- call (.builtin "list.append") [a,<- eval E e])
  k
theorem eO {d:Nat}{I A:Value}(h:gens[d]? =some ⟨tg,o7,ifs,0⟩)(H:∀g',gens[d+1]? =some g'->g'.is_async=0):
  compTurn (.ListComp oS gens sc o6) d I A env=(do
   standAt o7.pos
   match <- pyNext I with
   |none=>pure (.done .next)|some v=>
    letOwnedTupleGo tg I v
    assign tg env v
    let mut ok:=true
    for c in ifs do
     if ok then ok <- isTrue c env (eval c env)
    if ok then WE oS gens sc o6 d A env (again (.compLoop (.ListComp oS gens sc o6) d I A env))
    else again (.compLoop (.ListComp oS gens sc o6) d I A env)):=by
 unfold compTurn WE;dsimp only;rw[h];cases hn:gens[d+1]? with
 |none=>rfl|some g'=>
  obtain⟨t,i,f,a⟩:=g';have e:a=0:=H _ hn;subst e
  rfl
def QH (X:Cx)(i:bW)(t:TT):Prop:=
 ∀(o5:bS)(s:Shared)(σ:St)(H:Hp)(Q:Bool->Hp->Prop),Inv X o5 σ H s->t σ H Q->
  wpAny (model X.prog X.w) X.A (forIn i true λc r=>if r=true then do let ok <- isTrue c X.env (eval c X.env);pure (ForInStep.yield ok) else pure (ForInStep.yield r)) (TP X o5 σ Q) X.xe s
def eQ:TT:=λ_ H Q=>Q true H
def BQ:QH X [] eQ:=λp s a H Q I h=>wpAny_tests_nil ⟨H,I,h⟩
def C9 {c:Expr}{t:TT}(h:PT X c t):QH X [c] t:=λp s a H Q I b=>wpAny_tests_one (h p s a H Q I b)
def gw (X:Cx)(e:Expr)(g:List Comprehension)(c:Scope)(p:Pos)(d:Nat)(t:Za):Prop:=
 ∀(o5:bS)(s:Shared)(σ:St)(H:Hp)(D:Addr)(Q:St->Hp->Prop)(k:Sem Fin)(Q':Fin->Shared->Prop)(E:bV),Inv X o5 σ H s->t D σ H Q->
  (∀S a h,Inv X o5 a h S->Q a h->wpAny (model X.prog X.w) X.A k Q' E S)->wpAny (model X.prog X.w) X.A (WE e g c p d (.ref D) X.env k) Q' E s
def eR (t:TE):Za:=λD a H Q=>t a H λy h=>∃Y,h D=some (.lst Y)/\Y.length<sizeLine/\Q a (upd h D (.lst (Y++[y])))
def Wy (J:It)(g:TG)(T:TT)(t:Za):Za:=λD e H Q=>∃W:Nat->Nat->St->Hp->Prop,(∃m,W 0 m e H)/\∀i m e H,W i m e H->
 (J.stop i H/\Q e H)∨(J.go i H/\∃N:St->Hp->Prop,(∀c h,N c h->∃M,M<m/\W (i+1) M c h)/\∀x h,J.yld i H x h->g x e h λa f=>T a f λb d=>if b=true then t D a d N else N a d)
def eT (i:TI)(g:TG)(T:TT)(t:Za):Za:=λD a H Q=>i a H λJ h=>Wy J g T t D a h Q
section
variable {d:Nat}
def YZ (h:∀e s,X.xe e s->False){t:Sem α}{Q:α->Shared->Prop}(H:wpAny (model X.prog X.w) X.A t Q X.xe s'):wpAny (model X.prog X.w) X.A t Q E s':=
 wpAny_mono H (λ_ _ z=>z) λe s' z=>(h e s' z).elim
def BO {t:TE}(x:∀e s,X.xe e s->False)(v:PE X oS t)(g:gens[d+1]? =none):gw X oS gens sc o6 d (eR t):=by intro p s n H D Q k B E I h b;unfold WE;rw[g];refine cf (cf (YZ x (zR (v p s n H _ I h) λu o ⟨y,A,f,r,Y,c,Z,a⟩=>?_)));refine cf (YZ x (zR (Oq p o n A (.ref D) [y] (.ref D) [u] (λ_ l=>Q n l) f rfl (.cons r .nil) ⟨D,Y,y,rfl,rfl,c,Z,a⟩) λ_ S ⟨_,j,i,_,q⟩=>?_));exact cg (b S n j i q)
def Ak {g:TG}{ti:TT}{tm:Za}(Z:∀e s,X.xe e s->False)(hc:X.calm=true)(hg:gens[d]? =some ⟨tg,o7,ifs,0⟩)(ha:∀g',gens[d+1]? =some g'->g'.is_async=0)(P:PG X tg g)(hi:QH X ifs ti)(hm:gw X oS gens sc o6 d tm)
  {s:Shared}{Q:St->Hp->Prop}{J:It}{it:Addr}{C:Nat->Heap->Prop}(T:Turn X.prog X.w X.K tg J fp it C)(I:Inv X o5 σ H s)(st:C 0 s.heap)(hf:∀b∈fp,wL X o5 H b)
  (h:Wy J g ti tm D σ H Q){R:Result->Shared->Prop}(hR:∀s' a c,Inv X o5 a c s'->Q a c->R (.ok .next) s'):
  codeAny (model X.prog X.w) X.A (.compLoop (.ListComp oS gens sc o6) d (.ref it) (.ref D) X.env) R s:=by
 obtain⟨W,⟨m0,w0⟩,turn⟩:=h;have S:∀{c:Hp},(∀b∈fp,c b=none)->∀b∈fp,wL X o5 c b:=λhn b l=>⟨hn b l,(hf b l).2⟩;refine codeAny_loop rfl (λn s'=>∃i a c,Inv X o5 a c s'/\C i s'.heap/\(∀b∈fp,c b=none)/\W i n a c) (λn s3 hI=>?_) m0 ⟨0,σ,H,I,st,λb l=>(hf b l).1,w0⟩;show wpAny _ X.A ((compTurn (.ListComp oS gens sc o6) d (.ref it) (.ref D) X.env).onRaise (λx=>do noteFrame x X.env;theTreesLotGoes x)) _ _ s3
 refine wpAny_noted ?_;rw[eO hg ha];refine cf (wpAny_standAt ?_);obtain⟨i,j,E,I3,ZM,B,w3⟩:=hI;rcases turn i n j E w3 with ⟨stop,qn⟩|⟨go,N,hN,step⟩
 ·refine cf (zR (T.done X rfl rfl rfl hc i o5 s3 j E _ I3 (S B) ZM stop) λr s4 ⟨M,I4⟩=>?_)
  subst M;exact cg (hR s4 j E I4 qn)
 ·refine cf (zR (T.item X rfl rfl rfl hc i o5 s3 j E _ I3 (S B) ZM go) λr s4 ⟨u,M,h4⟩=>?_)
  subst M;refine cf (zR h4 λ_ s5 ⟨x,H5,I5,r5,y5,p,U⟩=>?_);have Y:=I5.pinned (S U) (T.obj _ _ p);have back:∀{f:St}{q:Hp}{t:Shared},Inv X (o5++Wi fp s5.heap) f q t->N f q->∃m,m<n/\∃i a c,Inv X o5 a c t/\C i t.heap/\(∀b∈fp,c b=none)/\W i m a c:=λ {f q t} v n7=>by obtain⟨m',hm,w7⟩:=hN f q n7;refine⟨m',hm,i+1,f,q,v.unpinned,T.keep _ _ _ p λb l o e=>(v.pin (b,o) (aQ _ (aQ _ (GN l e)))).1,λb l=>?_,w7⟩;obtain⟨o,e,d⟩:=T.obj _ _ p b l;exact(v.pin (b,o) (aQ _ (aQ _ (GN l e)))).2.1
  refine cf (YZ Z (zR (P _ s5 j H5 x u _ Y r5 (step x H5 y5)) λ_ s6 ⟨y,H6,I6,q6⟩=>?_));refine cf (YZ Z (zR (hi _ s6 y H6 _ I6 q6) λok t ⟨q,v,L⟩=>?_));cases ok with
  |false=>exact cg ⟨rfl,back v L⟩|true=>
   rw[ai rfl]at L;exact hm _ t y q D _ _ _ _ v L λs8 σ8 H8 I8 q8=>cg ⟨rfl,back I8 q8⟩
def Lp {g:TG}{v:TT}{u:Za}(i:∀e s,X.xe e s->False)(o:X.calm=true)(c:gens[d]? =some ⟨tg,o7,ifs,0⟩)(p:∀g',gens[d+1]? =some g'->g'.is_async=0)(t:PG X tg g)(j:QH X ifs v)(y:gw X oS gens sc o6 d u)
  {s:Shared}{Q:St->Hp->Prop}{J:It}{r:Addr}{n:Nat->Heap->Prop}(T:Turn X.prog X.w X.K tg J fp r n)(I:Inv X o5 σ H s)(S:n 0 s.heap)(B:∀b∈fp,wL X o5 H b)
  (h:Wy J g v u D σ H Q){R:Result->Shared->Prop}(q:∀s' a f,Inv X o5 a f s'->Q a f->R (.ok .next) s'):
  codeAny (model X.prog X.w) X.A (.compStart (.ListComp oS gens sc o6) d (.ref r) (.ref D) X.env) R s:=by
 have L:=Ak i o c p t j y T I S B h q;refine codeAny_of_tree ?_;show wpAny _ _ ((compStart (.ListComp oS gens sc o6) d (.ref r) (.ref D) X.env).onRaise (λx=>do noteFrame x X.env;standAt theWindowsPlace)) _ _ s
 refine wpAny_notedAt ?_;unfold compStart;have l:(clausesOf (.ListComp oS gens sc o6))[d]? =some ⟨tg,o7,ifs,0⟩:=c;rw[l];show wpAny _ _ (ask >>= _) _ _ s;refine cf (wpAny_askSetting (wpAny_ite ?_))
 split
 ·first
   |exact cf (cg (cg (And.intro rfl L)))
   |exact cg (And.intro rfl L)
 ·first
   |exact cf (wpAny_rule (cf (wpAny_standAt (cf (T.self _ 0 s _ _ S (cg (And.intro rfl L)))))))
   |(refine cf (wpAny_rule ?_);show wpAny _ _ (standAt o7.pos >>= _) _ _ s;exact cf (wpAny_standAt (cf (T.self _ 0 s _ _ S (cg (And.intro rfl L))))))
def BN {i:TI}{g:TG}{L:TT}{K:Za}(b:∀e s,X.xe e s->False)(p:X.calm=true)(c:gens[d+1]? =some ⟨tg,o7,ifs,0⟩)(r:∀g',gens[d+2]? =some g'->g'.is_async=0)(N:PI X tg o7 i)(t:PG X tg g)(o:QH X ifs L)(U:gw X oS gens sc o6 (d+1) K)
  (l:∀x,foldedSetIterable o7 X.env x=pure x:=by intro _;rfl):gw X oS gens sc o6 d (eT i g L K):=by
 intro P s M H D Q k Q' E I h n;unfold WE;rw[c];refine cf (YZ b (zR (N P s M H _ I h) λv s1 Z=>?_));refine cf (wpAny_standAt (cf (wpAny_of_eq (l v) ?_)));refine cf (wpAny_holding (YZ b (zR Z λj s2 Y=>?_)));obtain⟨it,fp,B,J,C,e,u,T,Zt,f2,q⟩:=Y;subst e;refine cf (wpAny_runOwn (Lp b p c r t o U T u Zt f2 q λS a A y f=>?_));exact n S a A y f
end
noncomputable def Qd (n:Nat)(c:bT)(a:St):St:=List.replicate n none++c.map λi=>(a[i]?).join
noncomputable def Qa (M N:bU)(scope:Scope)(n:Nat)(c:bT):Bool:=
 N.length==n+c.length&&(List.range c.length).all λk=>match N[n+k]?,M[c.getD k 0]? with|some x,some y=>x==y&&scope.names.any λz=>z.1==x&&z.2==NameKind.free|_,_=>false
def Cu {M:bU}{u:Nat}(h:Qa M N scope u cap=true):(Qd u cap σ).length=N.length/\
  ∀(j:Nat)(x:Str)(v:V),N[j]? =some x->(Qd u cap σ)[j]? =some (some v)->(x,NameKind.free)∈scope.names/\∃i:Nat,M[i]? =some x/\σ[i]? =some (some v):=by
 unfold Qa at h;rw[ak,aL]at h;obtain⟨B,A⟩:=h;refine⟨by unfold Qd;simp[B],λj x v r E=>?_⟩
 unfold Qd at E
 by_cases d:j<u
 ·rw[ah (by simpa using d),bb]at E
  split at E<;>cases E
 ·rw[au (by simpa using d),bo,ax]at E
  cases c:cap[j-u]? with
  |none=>rw[c]at E;cases E|some i=>
   rw[c]at E;have e:(σ[i]?).join=some v:=aE E;have g:j-u<cap.length:=(cm.mp c).1;have H:=cw.mp A (j-u) (cj.mpr g);have p:u+(j-u)=j:=by lia
   rw[p,r]at H;have q:cap.getD (j-u) 0=i:=by rw[aa,c];rfl
   rw[q]at H;cases hm:M[i]? with
   |none=>rw[hm]at H;cases H|some y=>
    rw[hm]at H;rw[ak,aL]at H;obtain⟨n,l⟩:=H;subst n;obtain⟨z,f,a⟩:=List.any_eq_true.mp l;rw[ak,aL,aL]at a;refine⟨?_,i,hm,?_⟩
    ·obtain⟨t,Z⟩:=z
     obtain⟨C,a2⟩:=a;cases C;cases a2;exact f
    ·cases b:σ[i]? with
     |none=>rw[b]at e;cases e|some o=>rw[b]at e;cases o with|none=>cases e|some w=>cases e;rfl
abbrev j7:Value->Shared->Prop:=λ_ _=>False
def X3 (K:Frag)(i:TI)(g:TG)(T:TT)(t:Za)(n:Nat)(c:bT):TE:=λb H Q=>i b H λJ h=>∀D,h D=none->K.lookup D=none->Wy J g T t D (Qd n c b) (upd h D (.lst [])) λ_ a=>Q (.ref D) a
section
variable {wi:TI}{g:TG}{ti:TT}{tm:Za}{nl:Nat}
def Tu (hc:X.calm=true)(S:gE X sc)(t:Qa X.N N sc nl cap=true)(ha:∀g',gs[0]? =some g'->g'.is_async=0)(hw:PI X tg o7 wi)
  
  (hin:∀s H fp,Inv X o5 σ H s->(∀b∈fp,wL X o5 H b)->PG (jA X N sc s H fp j7) tg g/\QH (jA X N sc s H fp j7) ifs ti/\gw (jA X N sc s H fp j7) oS (⟨tg,o7,ifs,0⟩::gs) sc o6 0 tm)
  {s:Shared}{Q:VK}(I:Inv X o5 σ H s)(h:X3 X.K wi g ti tm nl cap σ H Q)
  {use:Option (Value->Sem Unit)}{Q':bV}
  (r:∀(D C:Addr)(s':Shared)(n:Hp)(m:bY),Inv X o5 σ n s'->Q (.ref D) n->s'.heap.Ns C m->n C=none->C≠X.env.locals->X.s0.heap.objs.size<=C->(∀x c,X.env.cells.lookup x=some c->c≠C)->(∀q∈X.pn++o5,q.1≠C)->
   compPost (model X.prog X.w) X.A X.xe use Q' (.ref D) C (.ok .next) s')
  (hs:∀x,foldedSetIterable o7 X.env x=pure x:=by intro _;rfl):
  wpAny (model X.prog X.w) X.A (comprehension (.ListComp oS (⟨tg,o7,ifs,0⟩::gs) sc o6) sc X.env p (newList []) false (eval o7 X.env) use) Q' X.xe s:=by
 have j:∀y∈sc.names,y.2=.free->∃c,X.env.cells.lookup y.1=some c:=λy Y e=>I.ok.has _ (S.free y Y e);refine wpAny_comprehension_free (use:=use) rfl hs (Oa j) S.kind (λy Y e=>by obtain⟨y1,y2⟩:=y;have e':y2=.local:=e;subst e';exact Yh S.nd Y) ?_
 refine zR (hw o5 s σ H _ I h) λv s1 h1=>zR h1 λitv s2 h2=>?_;obtain⟨it,fp,tn,J,M,e,I2,T,Zt,f2,q2⟩:=h2;subst e;refine wpAny_newObj_type ?_;have hD:M s2.heap.objs.size=none:=I2.fresh;have hKD:X.K.lookup s2.heap.objs.size=none:=by
  cases ek:X.K.lookup s2.heap.objs.size with|none=>rfl|some o=>exact absurd (aM (I2.kIn _ _ ek)) (aT _)
 have U:=q2 _ hD hKD;generalize Z:({ s2 with heap:=s2.heap.push { cls:=.type "list",data:=.seq ([]:bQ).toArray } }:Shared)=s3
 have f:s3={ s2 with heap:=s2.heap.push { cls:=.type "list",data:=.seq ([]:bQ).toArray } }:=Z.symm
 have i:Inv X o5 σ (upd M s2.heap.objs.size (.lst [])) s3:=by rw[f];exact I2.laid (t':=s2.toks) (λb u e=>af _ e) (aq _) ⟨by simp,[],0,.nil,aC _ rfl⟩
 have B:∀b∈fp,∃o,s2.heap.get? b=some o:=λb a=>let ⟨o,e,_⟩:=T.obj 0 _ Zt b a;⟨o,e⟩
 have P:s3.heap.objs.size=s2.heap.objs.size+1:=by rw[f];exact bj ..
 have ZM:tn 0 s3.heap:=T.keep _ _ _ Zt λb a o e=>by rw[f];exact af _ e
 have E:∀b∈fp,b<s3.heap.objs.size:=λb a=>by obtain⟨o,e⟩:=B b a;rw[P];exact bc (aM e)
 have L:∀b∈fp,wL X o5 (upd M s2.heap.objs.size (.lst [])) b:=λb a=>by obtain⟨o,e⟩:=B b a;refine⟨?_,(f2 b a).2⟩;rw[qm (aO (aM e))];exact(f2 b a).1
 generalize upd M s2.heap.objs.size (.lst [])=H3 at i L U;generalize s2.heap.objs.size=D at U ⊢;refine IU ?_;obtain⟨cl,cs⟩:=Cu t (σ:=σ);have I4:=CM (xe:=j7) i S L E cl cs;obtain⟨hgt,hi,hm⟩:=hin s3 H3 fp i L;refine Lp (X:=jA X N sc s3 H3 fp j7) (gens:=⟨tg,o7,ifs,0⟩::gs) (d:=0) (λ_ _ z=>z) hc rfl ha hgt hi hm T I4 (T.keep _ _ _ ZM λb a o e=>pushCells_keeps _ _ _ _ (af _ e)) (λb a=>?_) U λs' σ' n l q'=>?_
 ·obtain⟨g1,g2,g3,g4,g5,g6⟩:=L b a
  refine⟨g1,aO (E b a),λz=>?_,.inl a,(I4.ok.exf b a).2,λp hp=>absurd (show p∈([]:bS) from hp) (by simp)⟩
  rcases cn.mp (i.stkSub b z) with e|e
  ·exact g2 e
  ·exact g3 e
 ·have I5:Inv X o5 σ n s':=i.call' l.os l.base l.hok l.bare λb a=>by obtain⟨g1,g2,g3,g4,g5,g6⟩:=L b a;exact⟨g4,g2,g5,g6⟩
  obtain⟨m,hn,_⟩:=l.loc;refine r D _ s' n m I5 q' hn l.free (ne_of_gt i.lt) i.sz (λx c e z=>?_) λq hq z=>?_
  ·obtain⟨v,w⟩:=i.cell x c e
   exact aT _ (aK w.lt (by rw[z];exact aq _))
  ·exact aT _ (aK (aM (i.pin q hq).1) (by rw[z];exact aq _))
def AF (d:X.calm=true)(S:gE X sc)(p:Qa X.N N sc nl cap=true)(i:∀g',gs[0]? =some g'->g'.is_async=0)(y:PI X tg o7 wi)
  (n:∀s H fp,PG (jA X N sc s H fp j7) tg g/\QH (jA X N sc s H fp j7) ifs ti/\gw (jA X N sc s H fp j7) oS (⟨tg,o7,ifs,0⟩::gs) sc o6 0 tm)
  (c:∀x,foldedSetIterable o7 X.env x=pure x:=by intro _;rfl):PE X (.ListComp oS (⟨tg,o7,ifs,0⟩::gs) sc o6) (X3 X.K wi g ti tm nl cap):=by
 intro P s J H Q I h;rw[eval_ListComp];refine Tu (use:=none) d S p i y (λs H fp _ _=>n s H fp) I h (λD C v u m t q A E B r l j=>?_) c;exact⟨m,A,λL a=>⟨.ref D,u,t.turned (t':=v.toks) (λb o f e=>(a.2 b f).trans e) E B (.inr r) l j,rfl,q⟩⟩
def EN {p:Pos}{c:Pos}(Q:X.N.Nodup)(l:X.N[i]? =some x)(t:X.env.scope.names.lookup x=some .local)
  (j:swapsWith (.ListComp oS (⟨tg,o7,ifs,0⟩::gs) sc o6) (some (.Name x p)) c.line X.env=pure true)
  (L:X.calm=true)(S:gE X sc)(d:Qa X.N N sc nl cap=true)(P:∀g',gs[0]? =some g'->g'.is_async=0)(hw:PI X tg o7 wi)
  (n:∀s H fp,PG (jA X N sc s H fp j7) tg g/\QH (jA X N sc s H fp j7) ifs ti/\gw (jA X N sc s H fp j7) oS (⟨tg,o7,ifs,0⟩::gs) sc o6 0 tm)
  (E:∀x,foldedSetIterable o7 X.env x=pure x:=by intro _;rfl):PS X (.Assign [.Name x p] (.ListComp oS (⟨tg,o7,ifs,0⟩::gs) sc o6) c) (Vt (X3 X.K wi g ti tm nl cap) (X2 i)):=by
 intro o5 s σ H D I h;rw[exec_Assign_Name_used _ _ _ _ j];refine cf (wpAny_standAt (cf ?_));show wpAny _ X.A (do let _ <- comprehension (.ListComp oS (⟨tg,o7,ifs,0⟩::gs) sc o6) sc X.env _ (newList []) false (eval o7 X.env) (some (assign (.Name x p) X.env))) _ _ s
 refine cf (wpAny_mono (Tu (use:=some (assign (.Name x p) X.env)) (Q':=λ_ s'=>SP X o5 D .next s') L S d P hw (λs H fp _ _=>n s H fp) I h (λy C s' H' m I' q hn h1 h2 U u T=>?_) E) (λ_ s' J=>cg (cg J)) λ_ _ e=>e);show wpAny _ X.A (assign (.Name x p) X.env (.ref y)) _ _ _;refine wpAny_assign_Name (Oz I' Q l (.inl t) (v:=.ref y) rfl (λs2 Z ⟨a,B,Y⟩=>?_) (.inr t));have r:C≠a:=by
  rcases Y with e|e
  ·rw[e];exact h2
  ·exactλz=>u x a e z.symm
 refine⟨m,hn.sameBut B r,λh' f=>⟨_,H',Z.turned (t':=s2.toks) (λb o M e=>(f.2 b M).trans e) h1 h2 (.inr U) u T,q⟩⟩
end
end L2
namespace Mi
open PySem PySem.Spec PyProof.Rows L2
abbrev ja (e:PySem.Expr)(E:List PySem.Expr)(X:L2.Cx):Prop:=PySem.starEach (e::E) X.env=(false,PySem.eval e X.env)::PySem.starEach E X.env
abbrev yA (x:PySem.Str):Prop:=(x==("__debug__" : PySem.Str))=false
abbrev QP (X:L2.Cx)(x:PySem.Str):Prop:=X.fn x=true∨X.env.scope.names.lookup x=some .local
abbrev we (p:PySem.Pos)(e:List PySem.Expr)(X:L2.Cx):Prop:=(PySem.backTo p (PySem.starEach e X.env)).any (·.1)=false
inductive W where
 |non|bl (b:Bool)|int (i:Int)|str (x:Str)|tup (xs:List W)|ref (n:Nat)
 |clo (k:Nat) (xs:List W) (P:Obj->Addr->Obj->List V->Prop)
 |xc (x:Str)
 |fn (x:Str)
inductive O where
 |lst (xs:List W)|ro (xs:List W)|dct (kvs:List (Key×W))
 |td (kvs:List (List Int×W))
 |tr (kvs:List (List Int×W))
 |tab (q:Str) (P:Addr)
noncomputable def O.mut:O->Bool
 |.ro _=>false|.tr _=>false|_=>true
abbrev Hx:=List O
abbrev En:=List (Option W)
inductive R (α:Type) where
 |ok (a:α) (A:Hx)|exc (x:Str) (A:Hx)|bad
noncomputable def R.bind {b:Type}(r:R α)(f:α->Hx->R b):R b:=match r with|.ok a A=>f a A|.exc x A=>.exc x A|.bad=>.bad
def R.post (r:R α)(P:α->Hx->Prop)(E:Str->Hx->Prop):Prop:=match r with|.ok a A=>P a A|.exc x A=>E x A|.bad=>False
noncomputable def R.nox (r:R α):R α:=match r with|.ok a A=>.ok a A|.exc _ _=>.bad|.bad=>.bad
section
variable {β:Type}{r:R α}{f:α->Hx->R β}{P Q:α->Hx->Prop}{P':β->Hx->Prop}{E F:Str->Hx->Prop}
def zJ {a:α}{A:Hx}:(R.ok a A).bind f=f a A:=rfl
def Nf {A:Hx}:(R.exc x A:R α).bind f=.exc x A:=rfl
def zV:(r.bind f).post P' E↔r.post (λa A=>(f a A).post P' E) E:=by cases r<;>exact Iff.rfl
def qy (h:r.post P E)(H:∀a A,P a A->Q a A)(b:∀x A,E x A->F x A):r.post Q F:=by
 cases r with|ok a A=>exact H _ _ h|exc x A=>exact b _ _ h|bad=>exact h
end
abbrev Ev:=En->Hx->R W
inductive zfI (K:Frag)(H:Hp)(R:List V->Prop)(v:V):Prop
 |mk (a:Addr) (vs:List V) (e:v=.ref a) (h:qz K H a vs) (r:R vs)
inductive zft (H:Hp)(P:Obj->Addr->Obj->List V->Prop)(R:List V->Prop)(v:V):Prop
 |mk (a:Addr) (ob:Obj) (u:HO) (c:Addr) (oc:Obj) (uc:HO) (vs:List V) (e:v=.ref a) (h1:H a=some (.frz ob u)) (h2:H c=some (.frz oc uc)) (p:P ob c oc vs) (r:R vs)
inductive zfW (R:V->Prop)(Rs:List V->Prop)(vs:List V):Prop
 |mk (v:V) (r:List V) (e:vs=v::r) (h:R v) (t:Rs r)
mutual
def RV (K:Frag)(c:bR)(H:Hp):W->V->Prop
 |.non,v=>v=.non|.bl b,v=>v=.bl b|.int i,v=>v=.int i|.str x,v=>v=.str x|.tup d,v=>zfI K H (zC K c H d) v|.ref n,v=>∃a,v=.ref a/\c[n]? =some a|.clo _ d P,v=>zft H P (zC K c H d) v|.xc x,v=>∃a o u C,v=.ref a/\H a=some (.frz o u)/\o.cls=.ref C/\nsIn K mainGlobals x=some (some (.ref C))|.fn x,v=>∃a,v=.ref a/\nsIn K mainGlobals x=some (some (.ref a))
def zC (K:Frag)(φ:bR)(H:Hp):List W->List V->Prop
 |[],vs=>vs=[]|w::ws,vs=>zfW (RV K φ H w) (zC K φ H ws) vs
end
structure Le (K:Frag)(φ:bR)(H:Hp)(oP:bR)(H':Hp):Prop where
 ex:∀(n:Nat)(a:Addr),φ[n]? =some a->oP[n]? =some a
 tp:∀a vs,qz K H a vs->qz K H' a vs
 fr:∀a o,H a=some o->(∀n:Nat,φ[n]?≠some a)->H' a=some o
 nw:∀(n:Nat)(a:Addr),oP[n]? =some a->φ[n]? =some a∨H a=none
 st:∀a,H' a=none->H a=none
 fz:∀a o u,H a=some (.frz o u)->H' a=some (.frz o u)
def Le.refl {K φ H}:Le K φ H φ H:=⟨λ_ _ h=>h,λ_ _ h=>h,λ_ _ h _=>h,λ_ _ h=>.inl h,λ_ h=>h,λ_ _ _ h=>h⟩
def Le.trans {K φ H oU H1 φ2 H2}(a:Le K φ H oU H1)(b:Le K oU H1 φ2 H2):Le K φ H φ2 H2 where
 ex:=λn x h=>b.ex n x (a.ex n x h)
 tp:=λn x h=>b.tp n x (a.tp n x h)
 fr:=λc o h n=>b.fr c o (a.fr c o h n) λk e=>by
  rcases a.nw k c e with e|e
  ·exact n k e
  ·rw[h]at e;cases e
 nw:=λn c e=>by
  rcases b.nw n c e with e|e
  ·exact a.nw n c e
  ·exact .inr (a.st c e)
 st:=λc e=>a.st c (b.st c e)
 fz:=λc o u h=>b.fz c o u (a.fz c o u h)
def Le.off {K φ H oP H'}(l:Le K φ H oP H')(h:H D=some o)(n:∀k:Nat,φ[k]?≠some D):H' D=some o/\∀k:Nat,oP[k]?≠some D:=
 ⟨l.fr D o h n,λk e=>by
  rcases l.nw k D e with e|e
  ·exact n k e
  ·rw[h]at e;cases e⟩
section
variable {K:Frag}{oP:bR}{H':Hp}
structure QT (K:Frag)(φ:bR)(H:Hp)(oP:bR)(H':Hp):Prop where
 ex:∀(n:Nat)(a:Addr),φ[n]? =some a->oP[n]? =some a
 tp:∀a vs,qz K H a vs->qz K H' a vs
 fz:∀a o u,H a=some (.frz o u)->H' a=some (.frz o u)
mutual
theorem RV.monoW (l:QT K φ H oP H'):∀{w:W}{v:V},RV K φ H w v->RV K oP H' w v
 |.non,_,h=>h|.bl _,_,h=>h|.int _,_,h=>h|.str _,_,h=>h|.tup p,_,⟨a,g,e,t,r⟩=>⟨a,g,e,l.tp _ _ t,zC.monoW l r⟩|.ref n,_,⟨a,e,f⟩=>⟨a,e,l.ex _ _ f⟩|.clo _ p P,_,⟨a,ob,u,c,b,U,g,e,j,i,d,r⟩=>⟨a,ob,u,c,b,U,g,e,l.fz _ _ _ j,l.fz _ _ _ i,d,zC.monoW l r⟩|.xc x,_,⟨a,o,u,C,e,j,i⟩=>⟨a,o,u,C,e,l.fz _ _ _ j,i⟩|.fn _,_,h=>h
theorem zC.monoW (l:QT K φ H oP H'):∀{a:List W}{b:List V},zC K φ H a b->zC K oP H' a b
 |[],_,h=>h|w::a,_,⟨v,r,e,h,t⟩=>⟨v,r,e,RV.monoW l h,zC.monoW l t⟩
end
def RV.mono {w:W}(h:RV K φ H w v)(l:Le K φ H oP H'):RV K oP H' w v:=RV.monoW ⟨l.ex,l.tp,l.fz⟩ h
def zC.mono {w:List W}{v:List V}(h:zC K φ H w v)(l:Le K φ H oP H'):zC K oP H' w v:=zC.monoW ⟨l.ex,l.tp,l.fz⟩ h
structure yX (K:Frag)(D:Addr)(φ:bR)(H:Hp)(oP:bR)(H':Hp):Prop where
 ex:∀(n:Nat)(a:Addr),φ[n]? =some a->oP[n]? =some a
 tp:∀a vs,qz K H a vs->qz K H' a vs
 fr:∀a o,a≠D->H a=some o->(∀n:Nat,φ[n]?≠some a)->H' a=some o
 nw:∀(n:Nat)(a:Addr),oP[n]? =some a->φ[n]? =some a∨H a=none
 st:∀a,H' a=none->H a=none
 fz:∀a o u,H a=some (.frz o u)->H' a=some (.frz o u)
def yX.refl {D}:yX K D φ H φ H:=⟨λ_ _ h=>h,λ_ _ h=>h,λ_ _ _ h _=>h,λ_ _ h=>.inl h,λ_ h=>h,λ_ _ _ h=>h⟩
def Le.toD {D}(l:Le K φ H oP H'):yX K D φ H oP H':=⟨l.ex,l.tp,λa o _ h n=>l.fr a o h n,l.nw,l.st,l.fz⟩
def yX.trans {D oU H1 φ2 H2}(a:yX K D φ H oU H1)(b:yX K D oU H1 φ2 H2):yX K D φ H φ2 H2 where
 ex:=λn x h=>b.ex n x (a.ex n x h)
 tp:=λn x h=>b.tp n x (a.tp n x h)
 fr:=λc o N h n=>b.fr c o N (a.fr c o N h n) λk e=>by
  rcases a.nw k c e with e|e
  ·exact n k e
  ·rw[h]at e;cases e
 nw:=λn c e=>by
  rcases b.nw n c e with e|e
  ·exact a.nw n c e
  ·exact .inr (a.st c e)
 st:=λc e=>a.st c (b.st c e)
 fz:=λc o u h=>b.fz c o u (a.fz c o u h)
def RV.monoD {D}{w:W}(h:RV K φ H w v)(l:yX K D φ H oP H'):RV K oP H' w v:=RV.monoW ⟨l.ex,l.tp,l.fz⟩ h
def zC.monoD {D}{w:List W}{v:List V}(h:zC K φ H w v)(l:yX K D φ H oP H'):zC K oP H' w v:=zC.monoW ⟨l.ex,l.tp,l.fz⟩ h
theorem zC.length:∀{a:List W}{b:List V},zC K φ H a b->a.length=b.length
 |[],_,h=>by cases h;rfl|w::a,_,⟨v,r,e,_,t⟩=>by subst e;simp[zC.length t]
theorem zC.get:∀{a:List W}{b:List V}{i:Nat}{w:W},zC K φ H a b->a[i]? =some w->∃v,b[i]? =some v/\RV K φ H w v
 |[],_,_,_,_,e=>by simp at e|w::a,_,0,_,⟨v,r,e,h,t⟩,q=>by subst e;simp at q;subst q;exact⟨v,by simp,h⟩|w::a,_,i+1,x,⟨v,r,e,h,t⟩,q=>by
  subst e;obtain⟨y,d,c⟩:=zC.get (i:=i) (w:=x) t (by simpa using q)
  exact⟨y,by simpa using d,c⟩
theorem zC.append:∀{a u:List W}{b x:List V},zC K φ H a b->zC K φ H u x->zC K φ H (a++u) (b++x)
 |[],_,_,_,h,t=>by cases h;exact t|w::a,_,_,_,⟨v,r,e,h,t⟩,T=>by subst e;exact⟨v,r++_,rfl,h,zC.append t T⟩
def zC.one {w:W}(h:RV K φ H w v):zC K φ H [w] [v]:=⟨v,[],rfl,h,rfl⟩
def zC.nil:zC K φ H [] []:=rfl
def zC.cons {w:W}{v:V}{a:List W}{vs:List V}(h:RV K φ H w v)(t:zC K φ H a vs):zC K φ H (w::a) (v::vs):=⟨v,vs,rfl,h,t⟩
theorem zC.set {w:W}(q:RV K φ H w v):∀{b:List W}{c:List V}(i:Nat),zC K φ H b c->zC K φ H (b.set i w) (c.set i v)
 |[],_,_,h=>by cases h;exact rfl|_::_,_,0,⟨a,r,e,h,t⟩=>by subst e;exact⟨v,r,rfl,q,t⟩|_::_,_,i+1,⟨a,r,e,h,t⟩=>by subst e;exact⟨a,_,rfl,h,zC.set q i t⟩
theorem zC.drop:∀{a:List W}{b:List V}(n:Nat),zC K φ H a b->zC K φ H (a.drop n) (b.drop n)
 |[],_,n,h=>by cases h;rw[List.drop_nil,List.drop_nil];exact zC.nil|_::_,_,0,h=>by simpa using h|_::_,_,n+1,⟨v,r,e,h,t⟩=>by subst e;simpa using zC.drop n t
theorem zC.take:∀{a:List W}{b:List V}(n:Nat),zC K φ H a b->zC K φ H (a.take n) (b.take n)
 |[],_,n,h=>by cases h;rw[List.take_nil,List.take_nil];exact zC.nil|_::_,_,0,h=>by rw[take_zero,take_zero];exact zC.nil|_::_,_,n+1,⟨v,r,e,h,t⟩=>by subst e;exact⟨v,_,rfl,h,zC.take n t⟩
theorem zC.erase:∀{a:List W}{b:List V}(n:Nat),zC K φ H a b->zC K φ H (a.eraseIdx n) (b.eraseIdx n)
 |[],_,n,h=>by cases h;rw[List.eraseIdx_nil,List.eraseIdx_nil];exact zC.nil|_::_,_,0,⟨v,r,e,h,t⟩=>by subst e;simpa using t|_::_,_,n+1,⟨v,r,e,h,t⟩=>by subst e;exact⟨v,_,rfl,h,zC.erase n t⟩
theorem zC.ints:∀{ns:bP}{vs:List V},zC K φ H (ns.map W.int) vs↔vs=ns.map V.int
 |[],vs=>Iff.rfl|n::ns,vs=>by
  constructor
  ·rintro⟨v,r,e,h,t⟩
   rw[e,(show v=V.int n from h),zC.ints.mp t];rfl
  ·intro e
   exact⟨V.int n,ns.map V.int,e,rfl,zC.ints.mpr rfl⟩
def Kx (K:Frag)(H:Hp)(a:Addr)(x:List V):Prop:=
 (∃ob,H a=some (.frz ob (.lst x)))∨
  ∃(o:Obj) (o9:Array Value) (n:Nat),K.lookup a=some o/\o.cls=.type "list" /\ o.dict=none/\o.data=.seq o9 n/\o9.size<=sizeLine/\Vals x o9.toList
def Kx.sq (h:Kx K H a xs):qX K H a xs:=by
 rcases h with h|h
 ·exact .inl (.inr h)
 ·exact .inr h
inductive TabAt (H:Hp)(q:Str)(cv:Value):Prop
 |mk (c:Addr) (oc:Obj) (u:HO) (vs:Array Value) (t:Tok) (e:cv=.ref c) (h:H c=some (.frz oc u)) (d:oc.data=.fields vs/\vs[1]? =some (.str q t))
def WT (H:Hp)(q:Str)(ps:Array Value):Prop:=TriplesOk ps.toList/\∀p c,codeAmong p ps.toList=some c->TabAt H q c
def WT.mono {q:Str}{ps:Array Value}(h:WT H q ps)(l:∀a o u,H a=some (.frz o u)->H' a=some (.frz o u)):WT H' q ps:=
 ⟨h.1,λp C e=>by obtain⟨c,b,u,v,t,g,f,d⟩:=h.2 p C e;exact⟨c,b,u,v,t,g,l _ _ _ f,d⟩⟩
noncomputable def hT (K:bP):Int:=reduceHash (Builtin.Tuple.tupleHashOf (K.map hashInt))
def eU (a:Addr)(X:List (List Int×Addr×V))(h:Heap):Prop:=(a==sysModules)=false/\X.length<=sizeLine/\∃Z:List (List Int×Addr×Value),
 Paired (λ(p:List Int×Addr×V) (q:List Int×Addr×Value)=>p.1=q.1/\p.2.1=q.2.1/\RelV p.2.2 q.2.2) X Z/\
 ∃o e E,h.get? a=some o/\o.ExactDict/\o.data=.dict e E/\e.toList=Z.map (λx=>(⟨hT x.1,.ref x.2.1,x.2.2⟩:DictEntry))/\(Z.map (·.1)).Nodup
def eV (a:Addr)(X:List (List Int×Addr×V))(o:Obj):Prop:=(a==sysModules)=false/\X.length<=sizeLine/\∃Z:List (List Int×Addr×Value),
 Paired (λ(p:List Int×Addr×V) (q:List Int×Addr×Value)=>p.1=q.1/\p.2.1=q.2.1/\RelV p.2.2 q.2.2) X Z/\
 ∃e E,o.ExactDict/\o.data=.dict e E/\e.toList=Z.map (λx=>(⟨hT x.1,.ref x.2.1,x.2.2⟩:DictEntry))/\(Z.map (·.1)).Nodup
def OR (K:Frag)(c:bR)(H:Hp)(a:Addr):O->Prop
 |.lst d=>∃v,H a=some (.lst v)/\zC K c H d v|.ro d=>∃v,Kx K H a v/\zC K c H d v|.dct b=>∃U,H a=some (.dK U)/\U.map (·.1)=b.map (·.1)/\zC K c H (b.map (·.2)) (U.map (·.2))|.td b=>∃X:List (List Int×Addr×V),H a=some (.ext (eU a X))/\X.map (·.1)=b.map (·.1)/\(∀x∈X,qz K H x.2.1 (x.1.map V.int))/\zC K c H (b.map (·.2)) (X.map (·.2.2))|.tr b=>∃(ob:Obj) (u:HO) (X:List (List Int×Addr×V)),H a=some (.frz ob u)/\eV a X ob/\X.map (·.1)=b.map (·.1)/\(∀x∈X,qz K H x.2.1 (x.1.map V.int))/\zC K c H (b.map (·.2)) (X.map (·.2.2))|.tab q P=>a=P/\∃ps,H a=some (.tbl ps)/\WT H q ps
structure zL (K:Frag)(φ:bR)(A:Hx)(H:Hp):Prop where
 len:φ.length=A.length
 inj:∀(i j:Nat)(a:Addr)(o o':O),φ[i]? =some a->φ[j]? =some a->A[i]? =some o->A[j]? =some o'->o.mut=true->o'.mut=true->i=j
 ob:∀(n:Nat)(o:O),A[n]? =some o->∃a,φ[n]? =some a/\OR K φ H a o
variable {A:Hx}
def OR.there {o:O}(h:OR K φ H a o)(m:o.mut=true):∃u,H a=some u/\(∀xs,u≠.tup xs)/\(∀ob v,u≠.frz ob v):=by
 cases o with|lst d=>obtain⟨b,e,_⟩:=h;exact⟨_,e,λ_ z=>(by cases z),λ_ _ z=>(by cases z)⟩|ro d=>cases m|dct c=>obtain⟨b,e,_⟩:=h;exact⟨_,e,λ_ z=>(by cases z),λ_ _ z=>(by cases z)⟩|td c=>obtain⟨b,e,_⟩:=h;exact⟨_,e,λ_ z=>(by cases z),λ_ _ z=>(by cases z)⟩|tr _=>cases m|tab q P=>obtain⟨_,b,e,_⟩:=h;exact⟨_,e,λ_ z=>(by cases z),λ_ _ z=>(by cases z)⟩
def Xg (h:qz K H a vs)(n:∀xs,H b≠some (.tup xs))(N:∀ob u,H b≠some (.frz ob u)):qz K (upd H b o) a vs:=by
 rcases h with (h|⟨ob,h⟩)|h
 ·exact .inl (.inl (by rw[qm];exact h;intro e;subst e;exact n _ h))
 ·exact .inl (.inr ⟨ob,by rw[qm];exact h;intro e;subst e;exact N _ _ h⟩)
 ·exact .inr h
theorem Le.upd {k:Nat}(c:φ[k]? =some b)(n:∀xs,H b≠some (.tup xs))(N:∀ob u,H b≠some (.frz ob u)):Le K φ H φ (upd H b o) where
 ex:=λ_ _ h=>h
 tp:=λ_ _ h=>Xg h n N
 fr:=λa u h z=>by rw[qm];exact h;intro e;subst e;exact z k c
 nw:=λ_ _ h=>.inl h
 st:=λa h=>by
  by_cases e:a=b
  ·subst e;rw[jN]at h;cases h
  ·rw[qm e]at h;exact h
 fz:=λa ob u h=>by rw[qm];exact h;intro e;subst e;exact N _ _ h
def Le.new {p:Addr}(b:H p=none):Le K φ H φ (L2.upd H p o) where
 ex:=λ_ _ h=>h
 tp:=λ_ _ h=>Xg h (λx z=>by rw[b]at z;cases z) (λ_ _ z=>by rw[b]at z;cases z)
 fr:=λa u h z=>by rw[qm];exact h;intro e;subst e;rw[b]at h;cases h
 nw:=λ_ _ h=>.inl h
 st:=λa h=>by
  by_cases e:a=p
  ·subst e;rw[jN]at h;cases h
  ·rw[qm e]at h;exact h
 fz:=λa ob u h=>by rw[qm];exact h;intro e;subst e;rw[b]at h;cases h
def Le.alloc {p:Addr}(b:H p=none):Le K φ H (φ++[p]) (L2.upd H p o) where
 ex:=λn a h=>by
  have:=(cm.mp h).1
  rw[ah this];exact h
 tp:=(Le.new (φ:=φ) b).tp
 fr:=(Le.new (K:=K) (φ:=φ) b).fr
 nw:=λn a h=>by
  by_cases c:n < φ.length
  ·rw[ah c]at h;exact .inl h
  ·rw[au (by lia)]at h
   have e:a=p:=by
    have:=mem_of_getElem? h
    simpa using this
   subst e;exact .inr b
 st:=(Le.new (K:=K) (φ:=φ) b).st
 fz:=(Le.new (K:=K) (φ:=φ) b).fz
def Le.ofD (b:H D=none)(l:yX K D φ (L2.upd H D o) oP H'):Le K φ H oP H' where
 ex:=l.ex
 tp:=λa v h=>l.tp a v ((Le.new (K:=K) (φ:=φ) b).tp a v h)
 fr:=λa u h n=>by
  have N:a≠D:=by rintro rfl;rw[b]at h;cases h
  exact l.fr a u N (by rw[qm N];exact h) n
 nw:=λn a e=>by
  rcases l.nw n a e with e|e
  ·exact .inl e
  ·by_cases h:a=D
   ·subst h;rw[jN]at e;cases e
   ·rw[qm h]at e;exact .inr e
 st:=λa e=>by
  have E:=l.st a e
  by_cases h:a=D
  ·subst h;rw[jN]at E;cases E
  ·rw[qm h]at E;exact E
 fz:=λa ob u h=>l.fz a ob u (by rw[qm];exact h;rintro rfl;rw[b]at h;cases h)
theorem yX.upd (b:H D=some (.lst xs)):yX K D φ H φ (L2.upd H D o) where
 ex:=λ_ _ h=>h
 tp:=λa v h=>Xg h (λxs z=>by rw[b]at z;cases z) (λ_ _ z=>by rw[b]at z;cases z)
 fr:=λa u N h n=>by rw[qm N];exact h
 nw:=λ_ _ h=>.inl h
 st:=λa e=>by
  by_cases h:a=D
  ·subst h;rw[jN]at e;cases e
  ·rw[qm h]at e;exact e
 fz:=λa ob u h=>by rw[qm];exact h;intro e;subst e;rw[b]at h;cases h
def OR.keep {o:O}(h:OR K φ H a o)(l:Le K φ H oP H')(e:∀u,H a=some u->H' a=some u):OR K oP H' a o:=by
 cases o with
 |lst f=>obtain⟨v,q,r⟩:=h;exact⟨v,e _ q,r.mono l⟩|dct c=>obtain⟨v,q,k,r⟩:=h;exact⟨v,e _ q,k,r.mono l⟩|td c=>obtain⟨v,q,k,t,r⟩:=h;exact⟨v,e _ q,k,λx b=>l.tp _ _ (t x b),r.mono l⟩|tr c=>obtain⟨ob,u,v,q,d,k,t,r⟩:=h;exact⟨ob,u,v,e _ q,d,k,λx b=>l.tp _ _ (t x b),r.mono l⟩|tab q P=>obtain⟨k,ps,q,r⟩:=h;exact⟨k,ps,e _ q,r.mono l.fz⟩|ro f=>
  obtain⟨v,q,r⟩:=h;refine⟨v,?_,r.mono l⟩;rcases q with ⟨ob,q⟩|q
  ·exact .inl ⟨ob,e _ q⟩
  ·exact .inr q
theorem zL.alloc {p:Addr}{u:HO}{o:O}(S:zL K φ A H)(g:H p=none)(new:OR K (φ++[p]) (L2.upd H p u) p o):Le K φ H (φ++[p]) (L2.upd H p u)/\zL K (φ++[p]) (A++[o]) (L2.upd H p u):=by
 have l:Le K φ H (φ++[p]) (L2.upd H p u):=Le.alloc g;have D:∀(i:Nat) a,(φ++[p])[i]? =some a->i<A.length->φ[i]? =some a:=λi a e b=>by rw[ah (by rw[S.len];exact b)]at e;exact e
 refine⟨l,by simp[S.len],λi j a y x J I f c L M=>?_,λn N e=>?_⟩
 ·by_cases b:i<A.length
  ·by_cases d:j<A.length
   ·rw[ah b]at f
    rw[ah d]at c;exact S.inj i j a y x (D i a J b) (D j a I d) f c L M
   ·exfalso
    rw[ah b]at f;have t:j=A.length:=by have:=(cm.mp c).1;simp at this;lia
    subst t;rw[au (by rw[S.len];exact aq _),S.len]at I
    simp at I;obtain⟨C,E,q⟩:=S.ob i y f;rw[D i a J b]at E;cases E;obtain⟨z,h,_⟩:=q.there L;rw[<- I,g]at h;cases h
  ·have v:i=A.length:=by have:=(cm.mp f).1;simp at this;lia
   by_cases d:j<A.length
   ·exfalso
    rw[ah d]at c;subst v;rw[au (by rw[S.len];exact aq _),S.len]at J
    simp at J;obtain⟨C,E,q⟩:=S.ob j x c;rw[D j a I d]at E;cases E;obtain⟨z,h,_⟩:=q.there M;rw[<- J,g]at h;cases h
   ·have:=(cm.mp c).1;simp at this;lia
 ·by_cases P:n<A.length
  ·rw[ah P]at e
   obtain⟨a,E,q⟩:=S.ob n N e;refine⟨a,l.ex _ _ E,q.keep l λz h=>?_⟩;rw[qm];exact h;intro B;subst B;rw[g]at h;cases h
  ·have r:n=A.length:=by have:=(cm.mp e).1;simp at this;lia
   subst r;rw[au (aq _)]at e;simp at e;subst e;exact⟨p,by rw[au (by rw[S.len];exact aq _),S.len];simp,new⟩
def zL.write {p:Addr}{u:HO}{o o':O}(S:zL K φ A H)(Z:A[n]? =some o)(m:o.mut=true)(U:o'.mut=true)(c:φ[n]? =some p)(new:OR K φ (L2.upd H p u) p o'):
  Le K φ H φ (L2.upd H p u)/\zL K φ (A.set n o') (L2.upd H p u):=by
 obtain⟨T,e,q⟩:=S.ob n o Z;rw[c]at e;cases e;obtain⟨z,h,I,N⟩:=q.there m;have l:Le K φ H φ (L2.upd H p u):=Le.upd c (λxs e=>by rw[h]at e;exact I xs (aE e)) λob v e=>by rw[h]at e;exact N ob v (aE e)
 have mt:∀(i:Nat)(w:O),(A.set n o')[i]? =some w->w.mut=true->∃f,A[i]? =some f/\f.mut=true:=λi w e M=>by
  by_cases X:i=n
  ·subst X;exact⟨o,Z,m⟩
  ·rw[av (Ne.symm X)]at e;exact⟨w,e,M⟩
 refine⟨l,by simp[S.len],λi j a D C h1 h2 P L m1 m2=>?_,λi w e=>?_⟩
 ·obtain⟨y,E,k1⟩:=mt i D P m1
  obtain⟨g,Q,k2⟩:=mt j C L m2;exact S.inj i j a y g h1 h2 E Q k1 k2
 ·by_cases X:i=n
  ·subst X
   have:i<A.length:=(cm.mp Z).1
   rw[ar this]at e;cases e;exact⟨p,c,new⟩
  ·rw[av (Ne.symm X)]at e
   obtain⟨a,E,r⟩:=S.ob i w e;refine⟨a,E,?_⟩
   by_cases Y:w.mut=true
   ·have ne:a≠p:=λz=>X (S.inj i n a w o E (by rw[z];exact c) e Z Y m)
    exact r.keep l λz h=>by rw[qm ne];exact h
   ·cases w with
    |lst _=>exact absurd rfl Y|dct _=>exact absurd rfl Y|td _=>exact absurd rfl Y|tr _=>obtain⟨ob,u,vs,q,d,k,t,r⟩:=r;exact⟨ob,u,vs,l.fz _ _ _ q,d,k,λx J=>l.tp _ _ (t x J),r.mono l⟩|tab _ _=>exact absurd rfl Y|ro ws=>
     obtain⟨vs,b,B⟩:=r;refine⟨vs,?_,B.mono l⟩;rcases b with ⟨ob,b⟩|b
     ·refine .inl ⟨ob,?_⟩
      rw[qm];exact b;intro z;subst z;rw[h]at b;exact N _ _ (aE b)
     ·exact .inr b
def zL.lay {p:Addr}{u:HO}(S:zL K φ A H)(b:H p=none):zL K φ A (L2.upd H p u):=
 ⟨S.len,S.inj,λn o e=>by obtain⟨a,c,q⟩:=S.ob n o e;refine⟨a,c,q.keep (Le.new b) λz h=>?_⟩;rw[qm];exact h;intro E;subst E;rw[b]at h;cases h⟩
def zL.off (S:zL K φ A H)(b:H D=some (.lst xs))(n:∀k:Nat,φ[k]?≠some D):zL K φ A (L2.upd H D o):=
 ⟨S.len,S.inj,λk u e=>by
  obtain⟨a,E,q⟩:=S.ob k u e;have N:a≠D:=λz=>n k (by rw[<- z];exact E)
  have l:yX K D φ H φ (L2.upd H D o):=yX.upd b;refine⟨a,E,?_⟩;cases u with
  |lst f=>obtain⟨v,q,r⟩:=q;exact⟨v,by rw[qm N];exact q,r.monoD l⟩|dct c=>obtain⟨v,q,k,r⟩:=q;exact⟨v,by rw[qm N];exact q,k,r.monoD l⟩|td c=>obtain⟨v,q,k,t,r⟩:=q;exact⟨v,by rw[qm N];exact q,k,λx h=>l.tp _ _ (t x h),r.monoD l⟩|tr c=>obtain⟨ob,u,v,q,d,k,t,r⟩:=q;exact⟨ob,u,v,l.fz _ _ _ q,d,k,λx h=>l.tp _ _ (t x h),r.monoD l⟩|tab _ _=>obtain⟨k,v,q,r⟩:=q;exact⟨k,v,by rw[qm N];exact q,r.mono l.fz⟩|ro f=>
   obtain⟨v,q,r⟩:=q;refine⟨v,?_,r.monoD l⟩;rcases q with ⟨ob,q⟩|q
   ·exact .inl ⟨ob,by rw[qm N];exact q⟩
   ·exact .inr q⟩
def zL.notin (S:zL K φ A H)(b:H D=none)(d:K.lookup D=none):∀k:Nat,φ[k]?≠some D:=λk e=>by
 have c:k<A.length:=by rw[<- S.len];exact(cm.mp e).1
 obtain⟨a,E,q⟩:=S.ob k A[k] (by simp[c])
 rw[e]at E;cases E;cases h:A[k] with
 |lst f=>rw[h]at q;obtain⟨v,z,_⟩:=q;rw[b]at z;cases z|dct f=>rw[h]at q;obtain⟨v,z,_⟩:=q;rw[b]at z;cases z|td _=>rw[h]at q;obtain⟨v,z,_⟩:=q;rw[b]at z;cases z|tr _=>rw[h]at q;obtain⟨_,_,_,z,_⟩:=q;rw[b]at z;cases z|tab _ _=>rw[h]at q;obtain⟨_,v,z,_⟩:=q;rw[b]at z;cases z|ro f=>
  rw[h]at q;obtain⟨v,z,_⟩:=q;rcases z with ⟨ob,z⟩|⟨o,i,n,z,_⟩
  ·rw[b]at z;cases z
  ·rw[d]at z;cases z
def zL.Y6 {u:HO}{o:O}(S:zL K φ A H)(J:H D=some u)(n:∀k:Nat,φ[k]?≠some D)(new:OR K (φ++[D]) H D o):zL K (φ++[D]) (A++[o]) H:=by
 have l:QT K φ H (φ++[D]) H:=⟨λn a h=>by
  have:=(cm.mp h).1
  rw[ah this];exact h,λ_ _ h=>h,λ_ _ _ h=>h⟩
 have M:∀(i:Nat) a,(φ++[D])[i]? =some a->i<A.length->φ[i]? =some a:=λi a e b=>by rw[ah (by rw[S.len];exact b)]at e;exact e
 have N:∀a,(φ++[D])[A.length]? =some a->a=D:=λa e=>by
  rw[au (by rw[S.len];exact aq _),S.len]at e
  simpa using e.symm
 refine⟨by simp[S.len],λi j a E C Q P B f Y X=>?_,λk U e=>?_⟩
 ·by_cases b:i<A.length
  ·by_cases c:j<A.length
   ·rw[ah b]at B
    rw[ah c]at f;exact S.inj i j a E C (M i a Q b) (M j a P c) B f Y X
   ·exfalso
    have v:j=A.length:=by have:=(cm.mp f).1;simp at this;lia
    subst v;exact n i (by rw[<- N a P];exact M i a Q b)
  ·have y:i=A.length:=by have:=(cm.mp B).1;simp at this;lia
   by_cases c:j<A.length
   ·exfalso
    subst y;exact n j (by rw[<- N a Q];exact M j a P c)
   ·have:=(cm.mp f).1;simp at this;lia
 ·by_cases hn:k<A.length
  ·rw[ah hn]at e
   obtain⟨a,I,q⟩:=S.ob k U e;refine⟨a,l.ex _ _ I,?_⟩;cases U with|lst T=>obtain⟨L,z,r⟩:=q;exact⟨L,z,r.monoW l⟩|dct T=>obtain⟨L,z,Z,r⟩:=q;exact⟨L,z,Z,r.monoW l⟩|td _=>obtain⟨L,z,Z,t,r⟩:=q;exact⟨L,z,Z,λx g=>l.tp _ _ (t x g),r.monoW l⟩|tr _=>obtain⟨ob,u,L,z,d,Z,t,r⟩:=q;exact⟨ob,u,L,z,d,Z,λx g=>l.tp _ _ (t x g),r.monoW l⟩|tab _ _=>exact q|ro T=>obtain⟨L,z,r⟩:=q;exact⟨L,z,r.monoW l⟩
  ·have p:k=A.length:=by have:=(cm.mp e).1;simp at this;lia
   subst p;rw[au (aq _)]at e;simp at e;subst e;exact⟨D,by rw[au (by rw[S.len];exact aq _),S.len];simp,new⟩
def Le.Y6 {b:bR}{c:Hp}(l:Le K b c φ H)(g:c D=none):Le K b c (φ++[D]) H where
 ex:=λn a h=>by
  have d:=l.ex n a h
  have:=(cm.mp d).1
  rw[ah this];exact d
 tp:=l.tp
 fr:=l.fr
 nw:=λn a e=>by
  by_cases f:n < φ.length
  ·rw[ah f]at e;exact l.nw n a e
  ·rw[au (by lia)]at e
   have E:a=D:=by
    have:=mem_of_getElem? e
    simpa using this
   subst E;exact .inr g
 st:=l.st
 fz:=l.fz
end
abbrev St:=L2.St
abbrev XR:=Str->Hp->Prop
def PB (K:Frag)(b:bR)(H:Hp)(Q:VK):W->Hx->Prop:=λw A=>∀a h v,Le K b H a h->zL K a A h->RV K a h w v->Q v h
def eW (K:Frag)(b:bR)(H:Hp)(Q:List V->Hp->Prop):List W->Hx->Prop:=λw A=>∀a h v,Le K b H a h->zL K a A h->zC K a h w v->Q v h
def EB (K:Frag)(b:bR)(H:Hp)(X:XR):Str->Hx->Prop:=λx A=>∀a h,Le K b H a h->zL K a A h->X x h
structure RE (K:Frag)(φ:bR)(H:Hp)(ρ:En)(σ:St):Prop where
 len:σ.length=ρ.length
 get:∀(i:Nat)(w:W),ρ[i]? =some (some w)->∃v,σ[i]? =some (some v)/\RV K φ H w v
section
variable {K:Frag}{oU oP:bR}{H1 H':Hp}{A:Hx}{ρ:En}{xr:XR}
theorem RE.mono (r:RE K φ H ρ σ)(l:Le K φ H oP H'):RE K oP H' ρ σ:=⟨r.len,λi w e=>let ⟨v,a,h⟩:=r.get i w e;⟨v,a,h.mono l⟩⟩
def PB.mono {Q:VK}{w:W}(h:PB K φ H Q w A)(l:Le K φ H oU H1):PB K oU H1 Q w A:=λa b v L=>h a b v (l.trans L)
def EB.mono (h:EB K φ H xr x A)(l:Le K φ H oU H1):EB K oU H1 xr x A:=λa b L=>h a b (l.trans L)
theorem RE.set {w:W}(r:RE K φ H ρ σ)(q:RV K φ H w v):RE K φ H (ρ.set i (some w)) (σ.set i (some v)):=
 ⟨by simp[r.len],λj u e=>by
  by_cases h:i=j
  ·subst h
   have a:i < ρ.length:=by
    have:=(cm.mp e).1
    simpa using this
   rw[ar a]at e;cases e;exact⟨v,by rw[ar (by rw[r.len];exact a)],q⟩
  ·rw[av h]at e
   obtain⟨x,c,b⟩:=r.get j u e;exact⟨x,by rw[av h];exact c,b⟩⟩
end
inductive MM (K:Frag)(xr:XR)(m:Ev)(σ:St)(H:Hp)(Q:VK):Prop
 |mk (φ:bR) (A:Hx) (ρ:En) (S:zL K φ A H) (re:RE K φ H ρ σ) (h:(m ρ A).post (PB K φ H Q) (EB K φ H xr))
def tM (K:Frag)(x:XR)(m:Ev):TE:=λa H Q=>MM K x m a H Q
inductive MT (K:Frag)(xr:XR)(m:Ev)(σ:St)(H:Hp)(Q:Bool->Hp->Prop):Prop
 |mk (φ:bR) (A:Hx) (ρ:En) (S:zL K φ A H) (re:RE K φ H ρ σ) (h:(m ρ A).post (λw A'=>∃b,w=.bl b/\∀oP H',Le K φ H oP H'->zL K oP A' H'->Q b H') (EB K φ H xr))
def tT (K:Frag)(x:XR)(m:Ev):TT:=λa H Q=>MT K x m a H Q
abbrev Ea:=En->Hx->R (List W)
inductive MA (K:Frag)(xr:XR)(m:Ea)(σ:St)(H:Hp)(Q:List V->Hp->Prop):Prop
 |mk (φ:bR) (A:Hx) (ρ:En) (S:zL K φ A H) (re:RE K φ H ρ σ) (h:(m ρ A).post (eW K φ H Q) (EB K φ H xr))
def VM (K:Frag)(x:XR)(m:Ea):TA:=λa H Q=>MA K x m a H Q
def SE (X:Cx)(x:XR)(e:Expr)(m:Ev):Prop:=PE X e (tM X.K x m)
def ST (X:Cx)(x:XR)(e:Expr)(m:Ev):Prop:=PT X e (tT X.K x m)
def SW (X:Cx)(x:XR)(e:Expr)(m:Ev):Prop:=PW X e (tT X.K x m)
def SA (X:Cx)(x:XR)(e:bW)(m:Ea):Prop:=PA X e (VM X.K x m)
section
variable {xr:XR}{a b:Expr}{es:bW}{m ma mb mc:Ev}
def PE.imp {t T:TE}(h:PE X e t)(i:∀σ H Q,T σ H Q->t σ H Q):PE X e T:=λp s σ H Q I a=>h p s σ H Q I (i σ H Q a)
def PT.imp {t T:TT}(h:PT X e t)(i:∀σ H Q,T σ H Q->t σ H Q):PT X e T:=λp s σ H Q I a=>h p s σ H Q I (i σ H Q a)
def PW.imp {t T:TT}(h:PW X e t)(i:∀σ H Q,T σ H Q->t σ H Q):PW X e T:=λa p s σ H Q I b=>h a p s σ H Q I (i σ H Q b)
def PA.imp {t T:TA}(h:PA X es t)(i:∀σ H Q,T σ H Q->t σ H Q):PA X es T:=λp P s σ H Q I a=>h p P s σ H Q I (i σ H Q a)
def tM.go {K:Frag}{A:Hx}{c:En}{Q:VK}{G:W->Hx->Prop}(S:zL K φ A H)(r:RE K φ H c σ)(h:(m c A).post G (EB K φ H xr))
  (k:∀w A1 a b v,G w A1->Le K φ H a b->zL K a A1 b->RV K a b w v->Q v b):tM K xr m σ H Q:=
 ⟨φ,A,c,S,r,qy h (λw A1 g a b v l s q=>k w A1 a b v g l s q) λ_ _ z=>z⟩
def VM.go {K:Frag}{A:Hx}{c:En}{m:Ea}{Q:List V->Hp->Prop}{G:List W->Hx->Prop}(S:zL K φ A H)(r:RE K φ H c σ)(h:(m c A).post G (EB K φ H xr))
  (k:∀w A1 a b v,G w A1->Le K φ H a b->zL K a A1 b->zC K a b w v->Q v b):VM K xr m σ H Q:=
 ⟨φ,A,c,S,r,qy h (λw A1 g a b v l s q=>k w A1 a b v g l s q) λ_ _ z=>z⟩
def tT.go {K:Frag}{A:Hx}{c:En}{Q:Bool->Hp->Prop}{G:W->Hx->Prop}(S:zL K φ A H)(r:RE K φ H c σ)(h:(m c A).post G (EB K φ H xr))
  (k:∀w A1,G w A1->∃b,w=.bl b/\∀a d,Le K φ H a d->zL K a A1 d->Q b d):tT K xr m σ H Q:=
 ⟨φ,A,c,S,r,qy h (λw A1 g=>k w A1 g) λ_ _ z=>z⟩
noncomputable def zU (i:Nat):Ev:=λa A=>match a[i]? with|some (some w)=>.ok w A|_=>.bad
noncomputable def zT (w:W):Ev:=λ_ A=>.ok w A
def zm (g:W->W->Hx->R W)(a b:Ev):Ev:=λc A=>(a c A).bind λx e=>(b c e).bind λy d=>g x y d
def g7 (g:W->Hx->R W)(a:Ev):Ev:=λb A=>(a b A).bind λx c=>g x c
abbrev ZP:Str->Hx->Prop:=λ_ _=>False
def yB (K:Frag)(r:R2)(g:W->W->Hx->R W):Prop:=∀a A H x y u v Q,zL K a A H->RV K a H u x->RV K a H v y->(g u v A).post (PB K a H Q) ZP->r x y H Q
def Rz (K:Frag)(r:V->Hp->VK->Prop)(g:W->Hx->R W):Prop:=∀a A H x u Q,zL K a A H->RV K a H u x->(g u A).post (PB K a H Q) ZP->r x H Q
def qW (r:R α):Prop:=∀x A,r≠.exc x A
def YH {r:R α}{P:α->Hx->Prop}{E:Str->Hx->Prop}(n:qW r)(h:r.post P E):r.post P ZP:=by
 cases r with|ok a A=>exact h|exc x A=>exact absurd rfl (n x A)|bad=>exact h
def zm.read {g:W->W->Hx->R W}{r:R2}(p:∀x y A,qW (g x y A))(e:yB X.K r g):∀σ H Q,tM X.K xr (zm g ma mb) σ H Q->W7 r (tM X.K xr ma) (tM X.K xr mb) σ H Q:=by
 rintro σ H Q ⟨C,A,D,S,n,h⟩
 refine tM.go S n (zV.mp h) λw I b E v u l i d=>?_;refine tM.go i (n.mono l) (qy (zV.mp u) (λ_ _ z=>z) λ_ _ z=>z.mono l) λc B a j o t L f q=>?_;exact e a B j v o w c Q f (d.mono L) q (qy (YH (p _ _ _) t) (λ_ _ z=>z.mono (l.trans L)) λ_ _ z=>z)
def g7.read {g:W->Hx->R W}{r:V->Hp->VK->Prop}(n:∀x A,qW (g x A))(b:Rz X.K r g):∀σ H Q,tM X.K xr (g7 g ma) σ H Q->Ih r (tM X.K xr ma) σ H Q:=by
 rintro σ H Q ⟨j,A,o,S,e,h⟩
 refine tM.go S e (zV.mp h) λw i a f v d l c q=>?_;exact b a i f v w Q c q (qy (YH (n _ _) d) (λ_ _ z=>z.mono l) λ_ _ z=>z)
def ZG {o:Operator}{r:R2}{g:W->W->Hx->R W}(h:qS X (binaryOp o) r)(n:∀x y A,qW (g x y A))(H:yB X.K r g)(d:SE X xr a ma)(c:SE X xr b mb):SE X xr (.BinOp a o b o6) (zm g ma mb):=
 PE.imp (dA h d c) (zm.read n H)
def eX {o:UnaryOp}{r:V->Hp->VK->Prop}{g:W->Hx->R W}(h:VO X (unaryOp o) r)(n:∀x A,qW (g x A))(H:Rz X.K r g)(b:SE X xr a ma):SE X xr (.UnaryOp o a o6) (g7 g ma):=
 PE.imp (dB h b) (g7.read n H)
def MN {r:R2}{g:W->W->Hx->R W}(h:qS X (compareOp op) r)(n:∀x y A,qW (g x y A))(H:yB X.K r g)(d:SE X xr a ma)(c:SE X xr b mb)(e:behindInMarks op b=false):SE X xr (.Compare a [op] [b] o6) (zm g ma mb):=
 PE.imp (An h d c e) (zm.read n H)
def tT.toM {K:Frag}{Q:Bool->Hp->Prop}(h:tT K xr m σ H Q):tM K xr m σ H λx f=>∃k,x=.bl k/\Q k f:=by obtain⟨i,A,j,S,r,h⟩:=h;refine tM.go S r h λw n a g v ⟨b,e,q⟩ l d c=>?_;subst e;exact⟨b,c,q a g l d⟩
def eY {r:R2}{g:W->W->Hx->R W}(o:qS X (compareOp op) r)(n:∀x y A,qW (g x y A))(c:yB X.K r g)(e:SE X xr a ma)(d:SE X xr b mb)(i:behindInMarks op b=false):ST X xr (.Compare a [op] [b] o6) (zm g ma mb):=
 PT.imp (AR o e d i) λf H Q h=>zm.read n c f H _ h.toM
def gO (g h:W->W->Hx->R W)(a b c:Ev):Ev:=λf A=>(a f A).bind λx j=>(b f j).bind λy i=>(g x y i).bind λz d=>match z with|.bl true=>(c f d).bind λw e=>h y w e|.bl false=>.ok (.bl false) d|_=>.bad
def gO.read {g g':W->W->Hx->R W}{r i:R2}(hn:∀x y A,qW (g x y A))(U:yB X.K r g)(n:∀x y A,qW (g' x y A))(o:yB X.K i g'):
  ∀σ H Q,tM X.K xr (gO g g' ma mb mc) σ H Q->Sd r i (tM X.K xr ma) (tM X.K xr mb) (tM X.K xr mc) σ H Q:=by
 rintro σ H Q ⟨φ,A,ρ,S,re,h⟩
 refine tM.go S re (zV.mp h) λw A1 I H1 v h1 L S1 T=>?_;refine tM.go S1 (re.mono L) (qy (zV.mp h1) (λ_ _ z=>z) λ_ _ z=>z.mono L) λf A2 b E v2 h2 C S2 t=>?_;have j:=L.trans C;have p:=zV.mp h2;have a:(g w f A2).post (PB X.K b E λz c=>∃k,z=.bl k/\if k=true then tM X.K xr mc σ c λM q=>i v2 M q Q else Q (.bl false) c) ZP:=by
  refine qy (YH (hn _ _ _) p) (λz A3 a e c zv B D P=>?_) λ_ _ z=>z;have l:=j.trans B;cases z with
  |bl k=>
   refine⟨k,P,?_⟩;cases k with
   |true=>
    rw[ai rfl];refine tM.go D (re.mono l) (qy (zV.mp a) (λ_ _ z=>z) λ_ _ z=>z.mono l) λJ A4 d q v4 Y u Z N=>?_;exact o d A4 q v2 v4 f J Q Z ((t.mono B).mono u) N (qy (YH (n _ _ _) Y) (λ_ _ z=>z.mono (l.trans u)) λ_ _ z=>z)
   |false=>
    rw[aj aH];exact a e c _ l D rfl
  |non=>cases a|int _=>cases a|str _=>cases a|tup _=>cases a|ref _=>cases a|clo _ _ _=>cases a|xc _=>cases a|fn _=>cases a
 exact U b A2 E v v2 w f _ S2 (T.mono C) t a
def C0 {c:Expr}{o:CmpOp}{r e:R2}{g p:W->W->Hx->R W}(f:qS X (compareOp op) r)(q:∀x y A,qW (g x y A))(i:yB X.K r g)(h:qS X (compareOp o) e)(H:∀x y A,qW (p x y A))(d:yB X.K e p)
  (n:SE X xr a ma)(l:SE X xr b mb)(j:SE X xr c mc)(t:lastMarks [op,o] [b,c]=false:=by with_unfolding_all rfl):SE X xr (.Compare a [op,o] [b,c] o6) (gO g p ma mb mc):=
 PE.imp (C1 f h n l j t) (gO.read q i H d)
def BH {c:Expr}{o:CmpOp}{r i:R2}{g t:W->W->Hx->R W}(j:qS X (compareOp op) r)(v:∀x y A,qW (g x y A))(l:yB X.K r g)(d:qS X (compareOp o) i)(e:∀x y A,qW (t x y A))(f:yB X.K i t)
  (q:SE X xr a ma)(p:SE X xr b mb)(n:SE X xr c mc)(B:lastMarks [op,o] [b,c]=false:=by with_unfolding_all rfl):ST X xr (.Compare a [op,o] [b,c] o6) (gO g t ma mb mc):=
 PT.imp (C5 j d q p n B) λu H Q h=>gO.read v l e f u H _ h.toM
def kP (a b:Ev):Ev:=λc A=>(a c A).bind λx d=>match x with|.bl true=>b c d|.bl false=>.ok (.bl false) d|_=>.bad
def ZT (a b:Ev):Ev:=λc A=>(a c A).bind λx d=>match x with|.bl true=>.ok (.bl true) d|.bl false=>b c d|_=>.bad
def ym (a:Ev):Ev:=λb A=>(a b A).bind λx c=>match x with|.bl k=>.ok (.bl (!k)) c|_=>.bad
def eZ (c a b:Ev):Ev:=λd A=>(c d A).bind λx e=>match x with|.bl true=>a d e|.bl false=>b d e|_=>.bad
theorem tT.mono {K:Frag}{c:bR}{g:Hp}{A:Hx}{f:En}{Q:Bool->Hp->Prop}(S:zL K c A g)(L:Le K φ H c g)(r:RE K φ H f σ)
  (h:(m f A).post (λw A'=>∃b,w=.bl b/\∀a d,Le K φ H a d->zL K a A' d->Q b d) (EB K φ H xr)):tT K xr m σ g Q:=
 ⟨c,A,f,S,r.mono L,qy h (λw A' ⟨b,e,q⟩=>⟨b,e,λa d l s=>q a d (L.trans l) s⟩) λ_ _ z=>z.mono L⟩
noncomputable def zw:Ea:=λ_ A=>.ok [] A
def zj (a:Ev)(r:Ea):Ea:=λb A=>(a b A).bind λx d=>(r b d).bind λX c=>.ok (x::X) c
def TX:SA X xr [] zw:=PA.imp yg λb H Q ⟨a,A,c,S,r,h⟩=>h a H [] .refl S .nil
def Xr {M:Ea}(f:SE X xr e ma)(r:SA X xr es M)(d:ja e es X:=by rfl):SA X xr (e::es) (zj ma M):=
 PA.imp (jw f r d) λx H Q ⟨u,A,y,S,o,h⟩=>by refine tM.go S o (zV.mp h) λw E b C v t l i c=>?_;refine VM.go i (o.mono l) (qy (zV.mp t) (λ_ _ z=>z) λ_ _ z=>z.mono l) λn D a j B p L g q=>?_;exact p a j _ (l.trans L) g (.cons (c.mono L) q)
def qP (a:Ea):Ev:=λb A=>(a b A).bind λx c=>.ok (.tup x) c
def qO (a:Ea):Ev:=λc A=>(a c A).bind λx b=>.ok (.ref b.length) (b++[.lst x])
def Qy {K:Frag}{A:Hx}{p:Addr}{a:List W}(S:zL K φ A H)(h:H p=none)(r:zC K φ H a vs):
  Le K φ H φ (upd H p (.tup vs))/\zL K φ A (upd H p (.tup vs))/\RV K φ (upd H p (.tup vs)) (.tup a) (.ref p):=
 ⟨Le.new h,S.lay h,p,vs,rfl,qz.of jN,r.mono (Le.new h)⟩
def Q6 {K:Frag}{A:Hx}{p:Addr}{a:List W}(S:zL K φ A H)(h:H p=none)(r:zC K φ H a vs):
  Le K φ H (φ++[p]) (upd H p (.lst vs))/\zL K (φ++[p]) (A++[.lst a]) (upd H p (.lst vs))/\RV K (φ++[p]) (upd H p (.lst vs)) (.ref A.length) (.ref p):=by
 have l:Le K φ H (φ++[p]) (upd H p (.lst vs)):=Le.alloc h;obtain⟨c,b⟩:=S.alloc (o:=.lst a) h ⟨vs,jN,r.mono l⟩;exact⟨c,b,p,rfl,by rw[<- S.len];simp⟩
def fb {M:Ea}(h:SA X xr es M)(c:∀ρ A ws A',M ρ A=.ok ws A'->ws.length<=sizeLine):SE X xr (.List es o6) (qO M):=
 PE.imp (dZ h) λn H Q ⟨i,A,ρ,S,r,h⟩=>by
  have g:=zV.mp h;cases e:M ρ A with
  |ok ws A'=>
   rw[e]at g;refine⟨i,A,ρ,S,r,?_⟩;rw[e];intro a o v l f q;refine⟨by rw[<- q.length];exact c ρ A ws A' e,λp b=>?_⟩
   obtain⟨j,a2,d⟩:=Q6 f b q;exact g _ _ _ (l.trans j) a2 d
  |exc x A'=>rw[e]at g;refine⟨i,A,ρ,S,r,?_⟩;rw[e];exact g|bad=>rw[e]at g;exact g.elim
end
inductive Fl where
 |nx (ρ:En)|rt (w:W)|bk (ρ:En)|ct (ρ:En)
abbrev Ex:=En->Hx->R Fl
def FB (K:Frag)(d:bR)(H:Hp)(D:Ends):Fl->Hx->Prop
 |.nx c,A=>∀a h b,Le K d H a h->zL K a A h->RE K a h c b->D.nx b h|.rt w,A=>∀a h v,Le K d H a h->zL K a A h->RV K a h w v->D.rt v h|.bk c,A=>∀a h b,Le K d H a h->zL K a A h->RE K a h c b->D.bk b h|.ct c,A=>∀a h b,Le K d H a h->zL K a A h->RE K a h c b->D.ct b h
def FB.mono {K:Frag}{c:bR}{e:Hp}{D:Ends}{f:Fl}{A:Hx}(h:FB K φ H D f A)(l:Le K φ H c e):FB K c e D f A:=by
 cases f with|nx d=>exactλa b v L=>h a b v (l.trans L)|rt d=>exactλa b v L=>h a b v (l.trans L)|bk d=>exactλa b v L=>h a b v (l.trans L)|ct d=>exactλa b v L=>h a b v (l.trans L)
inductive MS (K:Frag)(xr:XR)(m:Ex)(D:Ends)(σ:St)(H:Hp):Prop
 |mk (φ:bR) (A:Hx) (ρ:En) (S:zL K φ A H) (re:RE K φ H ρ σ) (h:(m ρ A).post (FB K φ H D) (EB K φ H xr))
def tS (K:Frag)(x:XR)(m:Ex):TS:=λD a H=>MS K x m D a H
def SS (X:Cx)(x:XR)(S:Stmt)(m:Ex):Prop:=PS X S (tS X.K x m)
def QN (X:Cx)(x:XR)(S:cb)(m:Ex):Prop:=yP X S (tS X.K x m)
section
variable {xr:XR}{a b c:Expr}{st:Stmt}{oV:cb}{m:Ev}{m1 m2:Ex}
def PS.imp {t T:TS}(h:PS X st t)(i:∀D σ H,T D σ H->t D σ H):PS X st T:=λp s σ H D I a=>h p s σ H D I (i D σ H a)
def yP.imp {t T:TS}(h:yP X oV t)(i:∀D σ H,T D σ H->t D σ H):yP X oV T:=λp s σ H D I a=>h p s σ H D I (i D σ H a)
noncomputable def zS:Ex:=λa A=>.ok (.nx a) A
def zG (d M:Ex):Ex:=λc A=>(d c A).bind λl b=>match l with|.nx a=>M a b|f=>.ok f b
def Xn (g:SS X xr st m1)(o:QN X xr oV m2):QN X xr (st::oV) (zG m1 m2):=
 yP.imp (CY g o) λD q H ⟨i,A,j,S,n,h⟩=>by
  refine⟨i,A,j,S,n,qy (zV.mp h) (λf p g=>?_) λ_ _ z=>z⟩;cases f with|nx e=>exactλa d b l c r=>⟨a,p,e,c,r,qy g (λ_ _ z=>z.mono l) λ_ _ z=>z.mono l⟩|rt w=>exact g|bk e=>exact g|ct e=>exact g
def wg (m:Ev):Ex:=λa A=>(m a A).bind λ_ b=>.ok (.nx a) b
def gm (m:Ev):Ex:=λa A=>(m a A).bind λw b=>.ok (.rt w) b
def jk (c:Ev)(a b:Ex):Ex:=λd A=>(c d A).bind λx e=>match x with|.bl true=>a d e|.bl false=>b d e|_=>.bad
def qA (i:Nat)(m:Ev):Ex:=λa A=>(m a A).bind λw b=>.ok (.nx (a.set i (some w))) b
def qA.read:∀D σ H,tS X.K xr (qA i m) D σ H->Vt (tM X.K xr m) (X2 i) D σ H:=by
 rintro D σ H ⟨e,A,f,S,r,h⟩
 exact tM.go S r (zV.mp h) λw g a d v c l b q=>c a d _ l b ((r.mono l).set q)
def Q9 (g:W->W->W->Hx->R Unit)(e M d:Ev):Ex:=λc A=>(e c A).bind λv h=>(M c h).bind λo f=>(d c f).bind λi b=>(g o i v b).bind λ_ a=>.ok (.nx c) a
def MU (K:Frag)(t:J2)(g:W->W->W->Hx->R Unit):Prop:=∀d A H o i v b c wv Q,zL K d A H->RV K d H b o->RV K d H c i->RV K d H wv v->
 (g b c wv A).post (λ_ e=>∀a h,Le K d H a h->zL K a e h->Q h) ZP->t o i v H Q
def BP {o i:Expr}{mo mi:Ev}{t:J2}{g:W->W->W->Hx->R Unit}(ht:Vl X t)(hn:∀o i v A,qW (g o i v A))(Y:MU X.K t g)(he:SE X xr e m)(T:SE X xr o mo)(U:SE X xr i mi)
  (P:swapsWithSole [.Subscript o i oQ] e o6.line X.env=pure false:=by rfl)(hw:swappedStores [.Subscript o i oQ] e X.env=pure none:=by rfl)
  (h1:(assignEach [.Subscript o i oQ] X.env).map (·.2)=[assign (.Subscript o i oQ) X.env]:=by rfl)
  (Z:∀v,assign (.Subscript o i oQ) X.env v=(do
   let ov <- holding [v] (eval o X.env)
   let iv <- holding [v,ov] (eval i X.env)
   standAt oQ
   holding [v,ov,iv] (setItem ov iv v)
   release [v,ov,iv] []):=by intro _;rfl):SS X xr (.Assign [.Subscript o i oQ] e o6) (Q9 g m mo mi):=
 PS.imp (Mz he (df T U ht Z) P hw h1) λD σ H ⟨φ,A,ρ,S,re,h⟩=>by
  refine tM.go S re (zV.mp h) λp A1 I H1 v1 h1 f S1 N=>?_;refine tM.go S1 (re.mono f) (qy (zV.mp h1) (λ_ _ z=>z) λ_ _ z=>z.mono f) λn A2 E H2 v2 h2 y S2 M=>?_;have l:=f.trans y;refine tM.go S2 (re.mono l) (qy (zV.mp h2) (λ_ _ z=>z) λ_ _ z=>z.mono l) λj C c H3 J a d S3 Q=>?_;have L:=l.trans d;refine Y c C H3 v2 J v1 n j p _ S3 (M.mono d) Q (N.mono (y.trans d)) ?_;cases r:g n j p C with
  |ok u B=>
   rw[r]at a;exactλb H4 q S4=>a b H4 σ (L.trans q) S4 (re.mono (L.trans q))
  |exc x B=>exact absurd r (hn _ _ _ _ x B)|bad=>rw[r]at a;exact a.elim
structure jt where
 at_:Hx->Nat->Option (Option W)
 len:Nat
def QQ (K:Frag)(c:bR)(H:Hp)(j:jt)(J:It):Prop:=∀i a h A,QT K c H a h->zL K a A h->
 (∀w,j.at_ A i=some (some w)->J.go i h/\∀x b,J.yld i h x b->Le K a h a b/\zL K a A b/\RV K a b w x)/\(j.at_ A i=some none->J.stop i h)
abbrev Ei:=En->Hx->R jt
inductive MI (K:Frag)(xr:XR)(mi:Ei)(σ:St)(H:Hp)(Rr:It->Hp->Prop):Prop
 |mk (φ:bR) (A:Hx) (ρ:En) (S:zL K φ A H) (re:RE K φ H ρ σ) (h:(mi ρ A).post (λj A1=>∀oU H1 J,Le K φ H oU H1->zL K oU A1 H1->QQ K oU H1 j J->Rr J H1) (EB K φ H xr))
def tI (K:Frag)(x:XR)(M:Ei):TI:=λa H r=>MI K x M a H r
def SI (X:Cx)(x:XR)(t i:Expr)(M:Ei):Prop:=PI X t i (tI X.K x M)
def PI.imp {t T:TI}(h:PI X tg e t)(i:∀σ H Q,T σ H Q->t σ H Q):PI X tg e T:=λp s σ H Q I a=>h p s σ H Q I (i σ H Q a)
abbrev Tg:=W->En->Option En
inductive MG (K:Frag)(tw:Tg)(v:V)(σ:St)(H:Hp)(Q:St->Hp->Prop):Prop
 |mk (φ:bR) (A:Hx) (ρ:En) (w:W) (ρ':En) (S:zL K φ A H) (re:RE K φ H ρ σ) (rv:RV K φ H w v) (t:tw w ρ=some ρ') (q:∀σ',RE K φ H ρ' σ'->Q σ' H)
def tG (K:Frag)(t:Tg):TG:=λv a H Q=>MG K t v a H Q
def SG (X:Cx)(t:Expr)(T:Tg):Prop:=PG X t (tG X.K T)
def PG.imp {t T:TG}(h:PG X tg t)(i:∀v σ H Q,T v σ H Q->t v σ H Q):PG X tg T:=λp s σ H v u Q I r a=>h p s σ H v u Q I r (i v σ H Q a)
noncomputable def zQ (i:Nat):Tg:=λw a=>some (a.set i (some w))
noncomputable def jZ (i j:Nat):Tg:=λw a=>match w with|.tup [x,y]=>some ((a.set i (some x)).set j (some y))|_=>none
noncomputable def yb (j:jt)(S:W->Ex):Nat->Nat->Ex
 |0,i,ρ,A=>match j.at_ A i with|some none=>.ok (.nx ρ) A|_=>.bad
 |f+1,i,ρ,A=>match j.at_ A i with
  |some none=>.ok (.nx ρ) A|some (some w)=>(S w ρ A).bind λl b=>match l with|.nx a=>yb j S f (i+1) a b|.ct a=>yb j S f (i+1) a b|.bk a=>.ok (.nx a) b|.rt w=>.ok (.rt w) b
  |none=>.bad
noncomputable def turn (t:Tg)(b:Ex)(w:W):Ex:=λc A=>match t w c with|some a=>b a A|none=>.bad
def jM (M:Ei)(t:Tg)(b:Ex):Ex:=λa A=>(M a A).bind λj c=>yb j (turn t b) j.len 0 a c
inductive Il (K:Frag)(xr:XR)(j:jt)(t:W->Ex)(D:Ends)(oU:bR)(H1:Hp)(f i:Nat)(σ':St)(H':Hp):Prop
 |mk (φ2:bR) (A2:Hx) (ρ2:En) (l:Le K oU H1 φ2 H') (S:zL K φ2 A2 H') (re:RE K φ2 H' ρ2 σ') (h:(yb j t f i ρ2 A2).post (FB K φ2 H' D) (EB K φ2 H' xr))
noncomputable def QI (c:Ev)(b:Ex):Nat->Ex
 |0,ρ,A=>.bad|f+1,ρ,A=>(c ρ A).bind λx e=>match x with
  |.bl true=>(b ρ e).bind λl d=>match l with|.nx a=>QI c b f a d|.ct a=>QI c b f a d|.bk a=>.ok (.nx a) d|.rt w=>.ok (.rt w) d
  |.bl false=>.ok (.nx ρ) e|_=>.bad
def fc (f:Nat)(c:Ev)(b:Ex):Ex:=QI c b f
noncomputable def QC (n:Nat)(c:bT)(a:En):En:=List.replicate n none++c.map λi=>(a[i]?).join
theorem RE.Qd {K:Frag}{b:En}{n:Nat}(r:RE K φ H b σ):RE K φ H (QC n cap b) (L2.Qd n cap σ):=by
 refine⟨by simp[QC,L2.Qd],λi w e=>?_⟩
 unfold QC at e;unfold L2.Qd
 by_cases d:i<n
 ·rw[ah (by simpa using d),bb]at e
  split at e<;>cases e
 ·rw[au (by simpa using d),bo,ax]at e
  rw[au (by simpa using d),bo,ax]
  cases c:cap[i-n]? with
  |none=>rw[c]at e;cases e|some k=>
   rw[c]at e;have E:(b[k]?).join=some w:=aE e;cases h:b[k]? with
   |none=>rw[h]at E;cases E|some o=>cases o with
    |none=>rw[h]at E;cases E|some a=>
     rw[h]at E;cases E;obtain⟨v,g,f⟩:=r.get k w h;exact⟨v,by simp[g],f⟩
abbrev Em:=En->List W->Hx->R (En×List W)
noncomputable def zX:Nat:=100000
def qw (e:Ev):Em:=λb a A=>(e b A).bind λy c=>if a.length<zX then .ok (b,a++[y]) c else .bad
noncomputable def qZ (j:jt)(t:Tg)(I:Ev)(e:Em):Nat->Nat->Em
 |0,i,ρ,acc,A=>match j.at_ A i with|some none=>.ok (ρ,acc) A|_=>.bad
 |f+1,i,ρ,acc,A=>match j.at_ A i with
  |some none=>.ok (ρ,acc) A|some (some w)=>match t w ρ with
   |some a=>(I a A).bind λc b=>match c with|.bl true=>(e a acc b).bind λp d=>qZ j t I e f (i+1) p.1 p.2 d|.bl false=>qZ j t I e f (i+1) a acc b|_=>.bad
   |none=>.bad
  |none=>.bad
def Wx (M:Ei)(t:Tg)(i:Ev)(e:Em):Em:=λb a A=>(M b A).bind λj c=>qZ j t i e j.len 0 b a c
abbrev jW:=En->Hx->R (List W)
def qD (n:Nat)(c:bT)(M:Ei)(t:Tg)(i:Ev)(e:Em):jW:=λa A=>(M a A).bind λj d=>(qZ j t i e j.len 0 (QC n c a) [] d).nox.bind λp b=>.ok p.2 b
def RQ (K:Frag)(D:Addr)(c:bR)(H:Hp)(Q:St->Hp->Prop)(p:En×List W)(A:Hx):Prop:=∀a h b Z,yX K D c H a h->(∀k:Nat,a[k]?≠some D)->zL K a A h->RE K a h p.1 b->h D=some (.lst Z)->zC K a h p.2 Z->Q b h
inductive ME (K:Frag)(em:Em)(D:Addr)(σ:St)(H:Hp)(Q:St->Hp->Prop):Prop
 |mk (φ:bR) (A:Hx) (ρ:En) (acc:List W) (ys:List V) (S:zL K φ A H) (re:RE K φ H ρ σ) (hD:H D=some (.lst ys)) (nD:∀k:Nat,φ[k]?≠some D) (rv:zC K φ H acc ys)
  (h:(em ρ acc A).post (RQ K D φ H Q) ZP)
def tE (K:Frag)(e:Em):Za:=λD a H Q=>ME K e D a H Q
abbrev jR:XR:=λ_ _=>False
def SM (X:Cx)(e:Expr)(g:List Comprehension)(S:Scope)(c:Pos)(d:Nat)(E:Em):Prop:=gw X e g S c d (tE X.K E)
def gw.imp {d:Nat}{t T:Za}(h:gw X oS gens sc o6 d t)(i:∀D σ H Q,T D σ H Q->t D σ H Q):gw X oS gens sc o6 d T:=
 λp s σ H D Q k q E I b a=>h p s σ H D Q k q E I (i D σ H Q b) a
def U4 {K:Frag}{r:R α}{P:α->Hx->Prop}(h:r.post P ZP):r.post P (EB K φ H jR):=qy h (λ_ _ z=>z) λ_ _ z=>z.elim
def WX (X:Cx)(i:bW)(m:Ev):Prop:=QH X i (tT X.K jR m)
inductive L8 (tw:Tg)(ifs:Ev)(em:Em)(j:jt)(K:Frag)(D:Addr)(φ:bR)(H:Hp)(Q:St->Hp->Prop)(f i:Nat)(σ':St)(H':Hp):Prop
 |mk (φ2:bR) (A2:Hx) (ρ2:En) (acc2:List W) (ys2:List V) (l:yX K D φ H φ2 H') (S:zL K φ2 A2 H') (re:RE K φ2 H' ρ2 σ') (hD:H' D=some (.lst ys2)) (nD:∀k:Nat,φ2[k]?≠some D) (ra:zC K φ2 H' acc2 ys2) (h:(qZ j tw ifs em f i ρ2 acc2 A2).post (RQ K D φ H Q) ZP)
def qZ.read {tw:Tg}{ifs:Ev}{em:Em}{j:jt}{J:It}{K:Frag}{A:Hx}{ρ:En}{acc:List W}{Q:St->Hp->Prop}{f:Nat}
  (jr:QQ K φ H j J)
  (S:zL K φ A H)(re:RE K φ H ρ σ)(hD:H D=some (.lst ys))(nD:∀k:Nat,φ[k]?≠some D)(ra:zC K φ H acc ys)
  (h:(qZ j tw ifs em f 0 ρ acc A).post (RQ K D φ H Q) ZP):
  Wy J (tG K tw) (tT K jR ifs) (tE K em) D σ H Q:=by
 refine⟨λi f b P=>L8 tw ifs em j K D φ H Q f i b P,
  ⟨f,φ,A,ρ,acc,ys,.refl,S,re,hD,nD,ra,h⟩,?_⟩
 rintro i f U H2 ⟨e,A2,q,d,Y,B,S2,t,M,u,l,h2⟩
 obtain⟨j1,j2⟩:=jr i e H2 A2 ⟨B.ex,B.tp,B.fz⟩ S2;cases E:j.at_ A2 i with
 |none=>cases f<;>(unfold qZ at h2;rw[E]at h2;exact h2.elim)|some o=>
  cases o with
  |none=>
   left
   refine⟨j2 E,?_⟩;cases f<;>(unfold qZ at h2;rw[E]at h2;exact h2 e H2 U Y B u S2 t M l)
  |some w=>
   right
   obtain⟨go,yl⟩:=j1 w E;cases f with
   |zero=>unfold qZ at h2;rw[E]at h2;exact h2.elim|succ f=>
    unfold qZ at h2;rw[E]at h2;refine⟨go,λb P=>L8 tw ifs em j K D φ H Q f (i+1) b P,λb P z=>⟨f,bx _,z⟩,λx H3 y=>?_⟩;obtain⟨v,S3,q3⟩:=yl x H3 y;obtain⟨hD3,Z⟩:=v.off M u;dsimp only at h2;cases et:tw w q with
    |none=>rw[et]at h2;exact h2.elim|some g=>
     rw[et]at h2;refine⟨e,A2,q,w,g,S3,t.mono v,q3,et,λσ3 r=>?_⟩;refine tT.go S3 r (U4 (zV.mp h2)) λc A4 a=>?_;cases c with
     |bl k=>
      refine⟨k,rfl,λn H4 L S4=>?_⟩;obtain⟨I,N⟩:=L.off hD3 Z;have C:=(B.trans (v.trans L).toD);cases k with
      |true=>
       rw[ai rfl];refine⟨n,A4,g,d,Y,S4,r.mono L,I,N,l.mono (v.trans L),qy (zV.mp a) (λp A5 h5 T H5 σ5 zs l5 n5 S5 X d5 r5=>?_) λ_ _ z=>z⟩;exact⟨T,A5,p.1,p.2,zs,C.trans l5,S5,X,d5,n5,r5,h5⟩
      |false=>
       rw[aj aH];exact⟨n,A4,g,d,Y,C,S4,r.mono L,I,N,l.mono (v.trans L),a⟩
     |non=>cases a|int _=>cases a|str _=>cases a|tup _=>cases a|ref _=>cases a|clo _ _ _=>cases a|xc _=>cases a|fn _=>cases a
def QQ.mono {K:Frag}{b:bR}{f:Hp}{j:jt}{J:It}(h:QQ K φ H j J)(l:QT K φ H b f):QQ K b f j J:=
 λi c d A L=>h i c d A ⟨λn a e=>L.ex n a (l.ex n a e),λa v e=>L.tp a v (l.tp a v e),λa o u e=>L.fz a o u (l.fz a o u e)⟩
inductive MF (K:Frag)(xr:XR)(mq:jW)(σ:St)(H:Hp)(Q:VK):Prop
 |mk (φ:bR) (A:Hx) (ρ:En) (S:zL K φ A H) (re:RE K φ H ρ σ) (h:(mq ρ A).post (λws A1=>∀oU H1 D ys,Le K φ H oU H1->zL K oU A1 H1->H D=none->H1 D=some (.lst ys)->(∀k:Nat,oU[k]?≠some D)->zC K oU H1 ws ys->Q (.ref D) H1) (EB K φ H xr))
def tF (K:Frag)(x:XR)(mq:jW):TE:=λa H Q=>MF K x mq a H Q
def SF (X:Cx)(x:XR)(e:Expr)(mq:jW):Prop:=PE X e (tF X.K x mq)
theorem qD.read {P:Ei}{T:Tg}{M:Ev}{E:Em}{B:Nat}:∀σ H Q,tF X.K xr (qD B cap P T M E) σ H Q->X3 X.K (tI X.K xr P) (tG X.K T) (tT X.K jR M) (tE X.K E) B cap σ H Q:=by
 rintro σ H Q ⟨Y,A,C,S,I,h⟩
 refine⟨Y,A,C,S,I,qy (zV.mp h) (λj A1 h1 b U J l g q D c t=>?_) λ_ _ z=>z⟩;have y:Le X.K b U b (upd U D (.lst [])):=Le.new c;have a:=zV.mp h1;refine qZ.read (q.mono ⟨y.ex,y.tp,y.fz⟩) (g.lay c) ((I.mono (l.trans y)).Qd) jN (g.notin c t) .nil ?_ (f:=j.len) (acc:=[]);cases e:qZ j T M E j.len 0 (QC B cap C) [] A1 with
 |ok p A2=>
  rw[e]at a;intro d v i Z o N u r d2 n;have L:=l.trans (Le.ofD c o);exact a d v D Z L u (l.st D c) d2 N n
 |exc x A2=>rw[e]at a;exact a.elim|bad=>rw[e]at a;exact a.elim
def jP (q:jW):Ev:=λb A=>(q b A).bind λc a=>.ok (.ref a.length) (a++[.lst c])
def jP.read {q:jW}{K:Frag}:∀σ H Q,tM K xr (jP q) σ H Q->tF K xr q σ H Q:=by
 rintro σ H Q ⟨f,A,g,S,j,h⟩
 refine⟨f,A,g,S,j,qy (zV.mp h) (λi v t b e D y L d u c N r=>?_) λ_ _ z=>z⟩;have l:Le K f H (b++[D]) e:=L.Y6 u;have p:QT K b e (b++[D]) e:=⟨λn a h=>by
  have:=(cm.mp h).1
  rw[ah this];exact h,λ_ _ h=>h,λ_ _ _ h=>h⟩
 refine t _ _ _ l (d.Y6 (o:=.lst i) c N ⟨y,c,r.monoW p⟩) ⟨D,rfl,?_⟩;rw[<- d.len];simp
inductive MQ (K:Frag)(xr:XR)(mq:jW)(σ:St)(H:Hp)(Q:VK):Prop
 |mk (φ:bR) (A:Hx) (ρ:En) (S:zL K φ A H) (re:RE K φ H ρ σ) (h:(mq ρ A).post (λws A1=>∀oU H1 a ys,Le K φ H oU H1->zL K oU A1 H1->(qX K H1 a ys∨qz K H1 a ys)->zC K oU H1 ws ys->Q (.ref a) H1) (EB K φ H xr))
def tQ (K:Frag)(x:XR)(mq:jW):TE:=λa H Q=>MQ K x mq a H Q
def SQ (X:Cx)(x:XR)(e:Expr)(mq:jW):Prop:=PE X e (tQ X.K x mq)
noncomputable def zW (w:W)(A:Hx):Option (List W):=match w with
 |.tup a=>some a|.ref n=>match A[n]? with|some (.lst a)=>some a|some (.ro a)=>some a|_=>none
 |_=>none
def GH {K:Frag}{A:Hx}{w:W}{g:List W}(S:zL K φ A H)(q:RV K φ H w v)(e:zW w A=some g):∃a ys,v=.ref a/\(qX K H a ys∨qz K H a ys)/\zC K φ H g ys:=by
 unfold zW at e;cases w with
 |tup x=>cases e;obtain⟨a,ys,b,c,E⟩:=q;exact⟨a,ys,b,.inr c,E⟩|ref n=>
  obtain⟨a,b,c⟩:=q;dsimp only at e;cases ea:A[n]? with
  |none=>rw[ea]at e;cases e|some o=>
   rw[ea]at e;obtain⟨d,E,r⟩:=S.ob n o ea;rw[c]at E;cases E;cases o with|lst x=>cases e;obtain⟨ys,f,h⟩:=r;exact⟨a,ys,b,.inl (qX.of f),h⟩|ro x=>cases e;obtain⟨ys,f,h⟩:=r;exact⟨a,ys,b,.inl f.sq,h⟩|dct x=>cases e|td _=>cases e|tr _=>cases e|tab _ _=>cases e
 |non=>cases e|bl _=>cases e|clo _ _ _=>cases e|xc _=>cases e|fn _=>cases e|int _=>cases e|str _=>cases e
def qa (m:Ev):jW:=λb A=>(m b A).bind λw a=>match zW w a with|some c=>.ok c a|none=>.bad
def WM (w:W)(A:Hx):Option jt:=match zW w A with|some a=>some ⟨λA i=>(zW w A).map λa=>a[i]?,a.length⟩|none=>none
def q9 (m:Ev):Ei:=λb A=>(m b A).bind λw a=>match WM w a with|some j=>.ok j a|none=>.bad
def fe (K:Frag)(t:TE):TI:=λb H r=>t b H λx h=>∃a,x=.ref a/\(((∃X,qX K h a X)/\r (Ip K a) h)∨((∃X,qz K h a X)/\r (Iq K a) h))
def fg {l:Expr}{t:TE}(n:PE X l t):PI X tg l (fe X.K t):=by
 intro P s B H y I h;refine zR (n P s B H _ I h) λv S ⟨x,A,i,g,Q⟩=>?_;obtain⟨a,e,q⟩:=Q;subst e;cases g;have f:∀b∈[S.heap.objs.size],wL X P A b:=λb u=>by
  have e:b=S.heap.objs.size:=by simpa using u
  subst e;exact i.fpOk (aq _) (i.hok.fresh (aq _))
 rcases q with ⟨⟨C,d⟩,q⟩|⟨⟨C,d⟩,q⟩
 ·obtain⟨c,r,p,j⟩:=i.list d
  refine wpAny_pyIter_list p.isList ?_;exact⟨S.heap.objs.size,[S.heap.objs.size],_,_,A,rfl,i.kept (t':=S.toks) λb o e=>af _ e,D3 a _,⟨_,aC _ rfl,rfl,rfl⟩,f,q⟩
 ·obtain⟨c,r,p,j⟩:=i.tuple d
  refine wpAny_pyIter_tuple (show S.heap.IsTuple a c.toArray from p) ?_
  exact⟨S.heap.objs.size,[S.heap.objs.size],_,_,A,rfl,i.kept (t':=S.toks) λb o e=>af _ e,EM a _,⟨_,aC _ rfl,rfl,rfl⟩,f,q⟩
noncomputable def jE (l:Int)(n:Nat):jt:=⟨λ_ i=>if i<n then some (some (.int (l+i))) else some none,n⟩
def Mr {K:Frag}{l:Int}:QQ K φ H (jE l n) (WV l n):=λi a h A L S=>by
 unfold jE;dsimp only
 by_cases c:i<n
 ·rw[ai c]
  refine⟨λw e=>?_,λe=>by cases e⟩
  cases e;exact⟨c,λx d ⟨b,E⟩=>by subst b;exact⟨.refl,S,E⟩⟩
 ·rw[aj c]
  exact⟨λw e=>(by cases e),λ_=>Nat.le_of_not_lt c⟩
noncomputable def jG (i:Int):Bool:=decide (-(2 ^ 62)<=i)&&decide (i<2 ^ 62)
def Yw {i:Int}(h:jG i=true):-(2 ^ 62)<=i/\i<2 ^ 62:=by unfold jG at h;rw[ak,ao,ao]at h;exact h
def jU (m:Ev):Ei:=λa A=>(m a A).bind λw b=>match w with|.int j=>if jG j then .ok (jE 0 j.toNat) b else .bad|_=>.bad
def Jg (m M:Ev):Ei:=λb A=>(m b A).bind λw d=>(M b d).bind λa c=>match w,a with|.int i,.int j=>if jG i&&jG j then .ok (jE i (j-i).toNat) c else .bad|_,_=>.bad
end
abbrev Fn:=List W->Hx->R W
def ko (K:Frag)(x:Str)(C:Value):Prop:=nsIn K mainGlobals x=some (some C)
def XE (K:Frag)(E:XK)(x:Str)(H:Hp):Prop:=∀C d,ko K x C->E C d H
inductive Zw (K:Frag)(n:Nat)(f:Fn)(vs:List V)(H:Hp)(Q:VK)(E:XK):Prop
 |mk (len:vs.length=n) (φ:bR) (A:Hx) (ws:List W) (S:zL K φ A H) (r:zC K φ H ws vs) (q:(f ws A).post (PB K φ H Q) (EB K φ H (XE K E)))
def Zw.len {K:Frag}{f:Fn}{Q:VK}{E:XK}(h:Zw K n f vs H Q E):vs.length=n:=by cases h;assumption
inductive qK (P:Program)(w:World)(K:Frag)(mg:bY)(base:Heap)(k:Nat)(x:Str)(n:Nat)(f:Fn):Prop
 |mk (fa:Addr) (fd:FuncData) (ps:bU) (F:yi P w K mg base kE k fa fd ps (Zw K n f)) (at_:mg x=some (.ref fa)) (kp:keepIn K (.ref fa)=true) (bi:Binds K fd ps [])
def zO (f:Fn)(a:Ea):Ev:=λb A=>(a b A).bind λc d=>f c d
section
variable {m ma:Ev}
def Qe (m:Ea)(n:Nat):Prop:=∀b A a c,m b A=.ok a c->a.length=n
def zK:Qe zw 0:=λ_ _ _ _ h=>by unfold zw at h;cases h;rfl
def zu {M:Ea}(h:Qe M n):Qe (zj ma M) (n+1):=λa A d f e=>by
 unfold zj at e;cases h1:ma a A with
 |ok x b=>
  rw[h1,zJ]at e;cases h2:M a b with|ok X c=>rw[h2,zJ]at e;cases e;simp[h a b X _ h2]|exc x c=>rw[h2]at e;cases e|bad=>rw[h2]at e;cases e
 |exc x b=>rw[h1]at e;cases e|bad=>rw[h1]at e;cases e
end
def qo (n:Nat)(m:Ex):Fn:=λa A=>(m (a.map some++List.replicate (n-a.length) none) A).nox.bind λf b=>match f with|.rt w=>.ok w b|.nx _=>.ok .non b|_=>.bad
theorem RE.start {K:Frag}{b:List W}(h:zC K φ H b vs):RE K φ H (b.map some++List.replicate (N.length-b.length) none) (L2.start N vs):=by
 unfold L2.start;refine⟨by simp[h.length],λi w e=>?_⟩
 by_cases c:i<b.length
 ·rw[ah (by simpa using c),ax]at e
  cases hw:b[i]? with
  |none=>rw[hw]at e;cases e|some a=>
   rw[hw]at e;cases e;obtain⟨v,f,d⟩:=h.get hw;refine⟨v,?_,d⟩;rw[ah (by rw[ag,<- h.length];exact c),ax,f];rfl
 ·rw[au (by simpa using c),bb]at e
  split at e<;>cases e
section
variable {w:World}{K:Frag}
theorem qK.mono {j k:Nat}{f:Fn}(F:qK P w K mg base j x n f)(h:j<=k):qK P w K mg base k x n f:=by cases F with|mk fa d ps F a b c=>exact⟨fa,d,ps,F.mono h,a,b,c⟩
theorem qK.imp {k:Nat}{f g:Fn}(F:qK P w K mg base k x n f)(h:∀ws A,ws.length=n->g ws A=.bad∨f ws A=g ws A):qK P w K mg base k x n g:=by
 obtain⟨fa,i,ps,F,a,b,c⟩:=F;refine⟨fa,i,ps,F.imp λv H Q E ⟨l,d,A,ws,S,r,q⟩=>⟨l,d,A,ws,S,r,?_⟩,a,b,c⟩;rcases h ws A (by rw[r.length];exact l) with e|e
 ·rw[e]at q;exact q.elim
 ·rw[e];exact q
end
section
variable {K:Frag}
def j5 {a:α}{A:Hx}:qW (R.ok a A):=λ_ _ h=>by cases h
def jc:qW (R.bad:R α):=λ_ _ h=>by cases h
def Z5 {c:Prop} [Decidable c] {a b:R α}(H:qW a)(h:qW b):qW (if c then a else b):=by split<;>assumption
noncomputable def ZA (f:Int->Int->W):W->W->Hx->R W
 |.int i,.int j,A=>.ok (f i j) A|_,_,_=>.bad
def QE {f:Int->Int->W}:∀x y A,qW (ZA f x y A):=λx y A=>by
 unfold ZA;split
 ·exact j5
 ·exact jc
noncomputable def ZO (c:Int->Int->Bool)(f:Int->Int->W):W->W->Hx->R W
 |.int i,.int j,A=>if c i j then .ok (f i j) A else .bad|_,_,_=>.bad
def WC {c:Int->Int->Bool}{f:Int->Int->W}:∀x y A,qW (ZO c f x y A):=λx y A=>by
 unfold ZO;split
 ·exact Z5 j5 jc
 ·exact jc
def Qs {f:Int->Int->W}{g:Int->Int->V}(h:∀i j φ H,RV K φ H (f i j) (g i j)):yB K (Zm g) (ZA f):=λφ A H x y u v Q S a q p=>by
 cases u with
 |int i=>cases v with|int j=>obtain rfl:=a;obtain rfl:=q;exact⟨i,j,rfl,rfl,p φ H _ .refl S (h i j φ H)⟩|_=>exact p.elim
 |_=>exact p.elim
def Wq {c:Int->Int->Bool}{C:Int->Int->Prop}{f:Int->Int->W}{g:Int->Int->V}(d:∀i j,c i j=true->C i j)(h:∀i j φ H,RV K φ H (f i j) (g i j)):yB K (rI C g) (ZO c f):=λφ A H x y u v Q S b q p=>by
 cases u with
 |int i=>cases v with
  |int j=>
   obtain rfl:=b;obtain rfl:=q;unfold ZO at p;dsimp only at p
   by_cases a:c i j=true
   ·rw[ai a]at p;exact⟨i,j,rfl,rfl,d i j a,p φ H _ .refl S (h i j φ H)⟩
   ·rw[aj a]at p;exact p.elim
  |_=>exact p.elim
 |_=>exact p.elim
noncomputable def Kl (i j:Int):Bool:=(decide (-(2 ^ 64)<i)&&decide (i<2 ^ 64)) || ((decide (-(2 ^ 64)<j)&&decide (j<2 ^ 64)) || (decide (i.natAbs<2 ^ 256)&&decide (j.natAbs<2 ^ 256)))
noncomputable def Vg (_ j:Int):Bool:=decide (0<j)
def fh (i j:Int)(h:Kl i j=true):WN i j:=by unfold Kl at h;simp only[a3,ak,decide_eq_true_eq]at h;exact h
def fj (i j:Int)(h:Vg i j=true):(λ_ j=>0<j) i j:=by unfold Vg at h;simpa using h
def gX:=ZA λi j=>.int (i-j)
def Y4:=ZO Vg λi j=>.int (i%j)
def fk:=ZA λi j=>.int (Builtin.bitXor i j)
def VG:=ZA λi j=>.bl (decide (i<j))
def Kt:=ZA λi j=>.bl (decide (i<=j))
def fm:=ZA λi j=>.bl (decide (j<i))
def Im:=ZA λi j=>.bl (decide (j<=i))
noncomputable def Vd (i j:Int):Bool:=decide (0<=j)&&decide (j<=1000000)&&decide (i.natAbs<2 ^ 64)
def NV (i j:Int)(h:Vd i j=true):Rp i j:=by unfold Vd at h;simp only[ak,decide_eq_true_eq]at h;exact⟨h.1.1,h.1.2,h.2⟩
def Kj:=ZO Vd λi j=>.int (i ^ j.toNat)
variable {a b c:Expr}
noncomputable def WS:W->Hx->R W
 |.int i,A=>.ok (.int (-i)) A|_,_=>.bad
structure gc (X:Cx)(op:CmpOp)(g:W->W->Hx->R W):Prop where
 ex:∃r:R2,qS X (compareOp op) r/\(∀x y A,qW (g x y A))/\yB X.K r g
 mks:∀b,op≠.In->op≠.NotIn->behindInMarks op b=false
def JK {r:R2}{g:W->W->Hx->R W}(a:qS X (compareOp op) r)(H:∀x y A,qW (g x y A))(h:yB X.K r g):gc X op g:=⟨⟨r,a,H,h⟩,λb c a2=>Bc b c a2⟩
def WL:gc X .Lt VG:=JK dQ QE (Qs λ_ _ _ _=>rfl)
def Rk:gc X .LtE Kt:=JK dR QE (Qs λ_ _ _ _=>rfl)
def LP:gc X .Gt fm:=JK dS QE (Qs λ_ _ _ _=>rfl)
def ft:gc X .GtE Im:=JK dU QE (Qs λ_ _ _ _=>rfl)
end
inductive Ty where
 |non|bl|int|str|tup|lst|dct
 deriving DecidableEq
noncomputable def Ty.nm:Ty->String
 |.non => "NoneType" | .bl => "bool" | .int => "int" | .str => "str" | .tup => "tuple" | .lst => "list" | .dct => "dict"
noncomputable def jq (w:W)(A:Hx):Option Ty:=match w with
 |.non=>some .non|.bl _=>some .bl|.int _=>some .int|.str _=>some .str|.tup _=>some .tup|.ref n=>match A[n]? with|some (.lst _)=>some .lst|some (.dct _)=>some .dct|_=>none
 |_=>none
noncomputable def kq (a b:Ty):Bool:=a==b || (a==.bl&&b==.int)
def Xh {K:Frag}(a b:Ty):kitOne K (.type a.nm) (.type b.nm)=some (kq a b):=by cases a<;>cases b<;>rfl
section
variable {xr:XR}{K:Frag}{a c:Expr}{es:bW}{m:Ev}
def Yc (K:Frag)(H:Hp)(x:V)(t:Ty):Prop:=gW K H x (.type t.nm)∨∃a X,x=.ref a/\qz K H a X/\t=.tup
def OS {A:Hx}{w:W}{t:Ty}(S:zL K φ A H)(q:RV K φ H w v)(e:jq w A=some t):Yc K H v t:=by
 cases w with
 |non=>cases e;obtain rfl:=q;exact .inl .non|bl k=>cases e;obtain rfl:=q;exact .inl (.bl k)|clo _ _ _=>cases e|xc _=>cases e|fn _=>cases e|int k=>cases e;obtain rfl:=q;exact .inl (.int k)|str k=>cases e;obtain rfl:=q;exact .inl (.str k)|tup c=>cases e;obtain⟨a,d,rfl,h,_⟩:=q;exact .inr ⟨a,d,rfl,h,rfl⟩|ref n=>
  obtain⟨a,rfl,g⟩:=q;unfold jq at e;dsimp only at e;cases E:A[n]? with
  |none=>rw[E]at e;cases e|some o=>
   rw[E]at e;obtain⟨b,f,r⟩:=S.ob n o E;rw[g]at f;cases f;cases o with|lst c=>cases e;obtain⟨d,z,_⟩:=r;exact .inl (.lst z)|dct c=>cases e;obtain⟨d,z,_⟩:=r;exact .inl (.dK z)|td _=>cases e|tr _=>cases e|tab _ _=>cases e|ro c=>cases e
def Yc.kit {s:Shared}{x:V}{t:Ty}(I:Inv X o5 σ H s)(r:RelV x u)(h:Yc X.K H x t):
  (∀{Q:bV}{E:bV}{A:Around}{c:Ty},(∀T,Q (.bool (kq t c)) { s with toks:=T })->wpAny (model X.prog X.w) A (call (.builtin "isinstance") [u,.type c.nm]) Q E s):=by
 intro Q E A c q;rcases h with h|⟨a,xs,rfl,h,rfl⟩
 ·exact OJ I r h (Xh t c) q
 ·cases (show u=Value.ref a from r)
  obtain⟨i,_,⟨o,d,b,_⟩,_⟩:=I.tuple h;exact bB kitx_tuple I.kIn ⟨o,d,b⟩ (Xh .tup c) (λz=>nomatch z) q
def fw (K:Frag):List V->Hp->VK->Prop:=λX H Q=>∃x t c,X=[x,.ty (Ty.nm c)]/\Yc K H x t/\Q (.bl (kq t c)) H
def AD:yw X (.builtin "isinstance") (fw X.K):=by
 intro p s e H f g Q I r h;obtain⟨x,t,c,rfl,d,q⟩:=h;obtain⟨u,U,rfl,b,a⟩:=vals2 r;cases (show U=Value.type c.nm from a)
 exact d.kit I b λT=>⟨.bl (kq t c),H,I.tok T,rfl,q⟩
def Zo (t:Ty)(m:Ev):Ev:=λb A=>(m b A).bind λw a=>match jq w a with|some T=>.ok (.bl (kq T t)) a|none=>.bad
def zH:W->W->Hx->R W:=λx y A=>match zW x A,y with
 |some a,.int i=>match gq a i with|some w=>.ok w A|none=>.bad
 |_,_=>.bad
def fx:∀x y A,qW (zH x y A):=λx y A=>by
 unfold zH;split
 ·split
  ·exact j5
  ·exact jc
 ·exact jc
def Br {a:List W}{i:Int}{w:W}(r:zC K φ H a ys)(e:gq a i=some w):∃y,gq ys i=some y/\RV K φ H w y:=by
 unfold gq at e ⊢;rw[<- r.length];cases h:gu a.length i with
 |none=>rw[h]at e;cases e|some j=>
  rw[h]at e;obtain⟨y,c,b⟩:=r.get (i:=j) e;exact⟨y,c,b⟩
def fy:yB K (Ia K) zH:=λc A H x y u v Q S b q p=>by
 unfold zH at p;cases es:zW u A with
 |none=>rw[es]at p;exact p.elim|some g=>
  rw[es]at p;cases v with
  |int i=>
   obtain rfl:=q;dsimp only at p;cases e:gq g i with
   |none=>rw[e]at p;exact p.elim|some w=>
    rw[e]at p;obtain⟨a,d,rfl,z,r⟩:=GH S b es;obtain⟨Y,f,h⟩:=Br r e;rcases z with z|z
    ·exact .inl ⟨a,d,i,Y,rfl,rfl,z,f,p c H _ .refl S h⟩
    ·exact .inr (.inl ⟨a,d,i,Y,rfl,rfl,z,f,p c H _ .refl S h⟩)
  |non=>exact p.elim|bl _=>exact p.elim|str _=>exact p.elim|tup _=>exact p.elim|ref _=>exact p.elim|clo _ _ _=>exact p.elim|xc _=>exact p.elim|fn _=>exact p.elim
def Jj (K:Frag)(r:List V->Hp->VK->Prop)(g:List W->Hx->R W):Prop:=∀b A H a y c Q,zL K b A H->(qX K H a y∨qz K H a y)->zC K b H c y->(g c A).post (PB K b H Q) ZP->r [.ref a] H Q
def mQ (g:List W->Hx->R W)(q:jW):Ev:=λa A=>(q a A).bind λb c=>g b c
def mQ.read {g:List W->Hx->R W}{q:jW}(n:∀ws A,qW (g ws A))(c:Jj X.K r g):∀σ H Q,tM X.K xr (mQ g q) σ H Q->VN r (XZ (tQ X.K xr q) Rh) σ H Q:=by
 rintro σ H Q ⟨e,A,f,S,i,h⟩
 refine⟨e,A,f,S,i,qy (zV.mp h) (λws p j b o a y l d z r=>?_) λ_ _ z=>z⟩;exact c b p o a y ws Q d z r (qy (YH (n _ _) j) (λ_ _ z=>z.mono l) λ_ _ z=>z)
def Wu {id:String}{g:List W->Hx->R W}{q:jW}(d:yw X (.builtin id) r)(n:∀ws A,qW (g ws A))(a:Jj X.K r g)(j:X.mg x=none)(v:bootBuiltins x=some (.builtin id))(f:SQ X xr e q)(c:Gl X x:=by rfl)
  (H:x ≠ "__name__":=by decide)(b:yA x:=by decide)(i:ja e [] X:=by rfl)(h:we o6 [] X:=by rfl):
  SE X xr (.Call (.Name x p) [e] [] o6) (mQ g q):=PE.imp (QZ d c j v (jw f yg i) H b i h) (mQ.read n a)
def fA {id:String}{g:List W->Hx->R W}{q:jW}(d:yw X (.type id) r)(n:∀ws A,qW (g ws A))(a:Jj X.K r g)(j:X.mg x=none)(v:bootBuiltins x=some (.type id))(f:SQ X xr e q)(c:Gl X x:=by rfl)
  (H:x ≠ "__name__":=by decide)(b:yA x:=by decide)(i:ja e [] X:=by rfl)(h:we o6 [] X:=by rfl):
  SE X xr (.Call (.Name x p) [e] [] o6) (mQ g q):=PE.imp (KU d c j v (jw f yg i) H b i h) (mQ.read n a)
noncomputable def qu:List W->Hx->R W:=λa A=>.ok (.int a.length) A
def fC:Jj K (λxs H Q=>∃p ys,xs=[.ref p]/\(qX K H p ys∨qz K H p ys)/\Q (.int ys.length) H) qu:=λb A H a ys c Q S z r p=>
 ⟨a,ys,rfl,z,by rw[<- r.length];exact p b H _ .refl S rfl⟩
noncomputable def gT:List W->Hx->R W:=λa A=>.ok (.tup a) A
def fD:Jj K (λxs H Q=>∃p ys,xs=[.ref p]/\((qX K H p ys/\∀l,H l=none->Q (.ref l) (upd H l (.tup ys)))∨(qz K H p ys/\Q (.ref p) H))) gT:=λc A H a ys e Q S z r p=>by
 refine⟨a,ys,rfl,?_⟩;rcases z with z|z
 ·refine .inl ⟨z,λl h=>?_⟩
  obtain⟨d,a2,b⟩:=Qy S h r;exact p _ _ _ d a2 b
 ·exact .inr ⟨z,p c H _ .refl S ⟨a,ys,rfl,z,r⟩⟩
variable {b:Expr}
def G7 {s:Shared}{a:Addr}(I:Inv X o5 σ H s)(l:X.calm=true)(z:qX X.K H a ys∨qz X.K H a ys)
  (h:∀(c:bQ)(j:Addr)(C B:bR)(S:Nat->Heap->Prop)(y:Shared),Vals ys c->ys.length<=sizeLine->Walks X.prog X.w X.A.in1 j C B c.length (λi v=>c[i]? =some v) S->S 0 y.heap->(∀b∈C,b<y.heap.objs.size)->
   (∀(x:Heap)(T:Nat),(∀b o,b∉B->y.heap.get? b=some o->x.get? b=some o)->Inv X o5 σ H { y with heap:=x,toks:=T })->Q (.ref j) y):
  wpAny (model X.prog X.w) X.A.in1 (pyIter (.ref a)) Q E s:=by
 have g:X.A.in1.handled=none:=I.ok.hd l;have keep:∀(o:Obj)(x:Heap)(T:Nat),(∀b u,b∉[s.heap.objs.size]->(s.heap.push o).get? b=some u->x.get? b=some u)->Inv X o5 σ H { s with heap:=x,toks:=T }:=λo x T k=>I.kept λb u e=>k b u (by
  intro D;have q:b=s.heap.objs.size:=by simpa using D
  exact absurd (q ▸ aM e) (aT _)) (af _ e)
 rcases z with z|z
 ·obtain⟨c,r,p,f⟩:=I.list z
  have t:a<s.heap.objs.size:=by obtain⟨o,n,e,_⟩:=p;exact aM e
  refine wpAny_pyIter_list p.isList ?_;have W:=Walks.list (prog:=X.prog) (w:=X.w) g s.heap.objs.size a (aO t) c.toArray;rw[aB]at W;simp only[List.getElem?_toArray]at W;refine h c s.heap.objs.size _ _ _ _ r f W ⟨⟨_,aC _ rfl,rfl,rfl⟩,p.isList.at λo e=>af _ e⟩ (λb d=>?_) λx T k=>keep _ x T k;show b<(s.heap.push _).objs.size;rw[bj];rcases cn.mp d with e|d
  ·rw[e];exact bx _
  ·have e:b=a:=by simpa using d
   rw[e];exact bc t
 ·obtain⟨c,r,p,f⟩:=I.tuple z
  have t:a<s.heap.objs.size:=p.lt;have P:s.heap.IsTuple a c.toArray:=p;refine wpAny_pyIter_tuple P ?_;have W:=Walks.tuple (prog:=X.prog) (w:=X.w) g s.heap.objs.size a (aO t) c.toArray;rw[aB]at W;simp only[List.getElem?_toArray]at W;refine h c s.heap.objs.size _ _ _ _ r f W ⟨⟨_,aC _ rfl,rfl,rfl⟩,P.at λo e=>af _ e⟩ (λb d=>?_) λx T k=>keep _ x T k;show b<(s.heap.push _).objs.size;rw[bj];rcases cn.mp d with e|d
  ·rw[e];exact bx _
  ·have e:b=a:=by simpa using d
   rw[e];exact bc t
noncomputable def WI:V->Option Bool
 |.bl b=>some b|.int i=>some (i != 0)|.non=>some false|_=>none
noncomputable def Kk:W->Option Bool
 |.bl b=>some b|.int i=>some (i != 0)|.non=>some false|_=>none
def CZ {w:W}{k:Bool}(q:RV K φ H w v)(e:Kk w=some k):WI v=some k:=by
 cases w<;>first
  |(cases e;done)
  |(obtain rfl:=q;exact e)
def Cb {A:Around}{k:Bool}{s:Shared}{Q:Bool->Shared->Prop}(r:RelV v u)(e:WI v=some k)(h:Q k s):wpAny (model X.prog X.w) A (truthy u) Q E s:=by
 cases v with
 |bl b=>cases e;cases r;exact wpAny_truthy_bool h|int i=>
  cases e;obtain⟨t,rfl⟩:=r;exact PySem.P.truthy_int h
 |non=>cases e;cases r;exactλ_ _ _=>h|_=>cases e
def gH:List W->Option (List Bool)
 |[]=>some []|w::ws=>match Kk w,gH ws with|some k,some K=>some (k::K)|_,_=>none
theorem P4:∀{c:List W}{Y:List V}{d:List Bool},zC K φ H c Y->gH c=some d->∀(i:Nat)(y:V),Y[i]? =some y->∃k,d[i]? =some k/\WI y=some k
 |[],_,_,r,e,i,y,h=>by cases r;simp at h|w::c,_,d,⟨v,r,e1,q,t⟩,e,i,y,h=>by
  subst e1;unfold gH at e;cases e2:Kk w with
  |none=>rw[e2]at e;cases e|some k=>
   cases E:gH c with
   |none=>rw[e2,E]at e;cases e|some a=>
    rw[e2,E]at e;cases e;cases i with|zero=>simp at h;subst h;exact⟨k,by simp,CZ q e2⟩|succ i=>simp at h;obtain⟨b,g,f⟩:=P4 t E i y h;exact⟨b,by simpa using g,f⟩
theorem Oh:∀{a:List W}{b:List Bool},gH a=some b->b.length=a.length
 |[],_,e=>by cases e;rfl|w::a,b,e=>by
  unfold gH at e;cases e2:Kk w with
  |none=>rw[e2]at e;cases e|some k=>
   cases E:gH a with|none=>rw[e2,E]at e;cases e|some K=>rw[e2,E]at e;cases e;simp[Oh E]
def range_all (K:List Bool):(List.range K.length).all (λi=>K.getD i false)=K.all id:=by
 rw[Bool.eq_iff_iff,aY,aY]
 constructor
 ·intro h x b
  obtain⟨i,a,rfl⟩:=a4 b
  have:=h i (cj.mpr a)
  rw[aa,ae a]at this;exact this
 ·intro h i a
  have H:=cj.mp a;rw[aa,ae H];exact h _ (aJ H)
def range_any (K:List Bool):(List.range K.length).any (λi=>K.getD i false)=K.any id:=by
 rw[Bool.eq_iff_iff,any_eq_true,any_eq_true]
 constructor
 ·rintro⟨i,a,h⟩
  have H:=cj.mp a;rw[aa,ae H]at h;exact⟨_,aJ H,h⟩
 ·rintro⟨x,b,h⟩
  obtain⟨i,a,rfl⟩:=a4 b;refine⟨i,cj.mpr a,?_⟩;rw[aa,ae a];exact h
def Rn (K:Frag)(f:List Bool->Bool):List V->Hp->VK->Prop:=λx H Q=>∃a Y b,x=[.ref a]/\(qX K H a Y∨qz K H a Y)/\b.length=Y.length/\(∀(i:Nat)(y:V),Y[i]? =some y->∃k,b[i]? =some k/\WI y=some k)/\Q (.bl (f b)) H
def O8 {K:List Bool}{A:Around}(r:Vals ys o9)(l:K.length=ys.length)(t:∀(i:Nat)(y:V),ys[i]? =some y->∃k,K[i]? =some k/\WI y=some k):TruthOf X.prog X.w A (λi v=>o9[i]? =some v) λi=>K.getD i false:=by
 intro i v s Q E P H;have a:i<o9.length:=(cm.mp P).1;have h:i<ys.length:=by rw[r.length];exact a
 obtain⟨u,d,e⟩:=r.get (i:=i) (x:=ys[i]) (by simp[h])
 rw[P]at d;cases d;obtain⟨k,c,b⟩:=t i ys[i] (by simp[h])
 dsimp only at H;rw[aa,c]at H;exact Cb e b H
def CW (d:X.calm=true):yw X (.builtin "all") (Rn X.K λks=>ks.all id):=by
 intro P s A H C U Q I r h;obtain⟨a,Y,ks,rfl,z,l,o,q⟩:=h;obtain⟨u,rfl,c⟩:=vals1 r;cases c;refine call_all_walk (G7 I d z λb f y j S D v g W n p B=>?_);refine⟨f,y,j,_,_,S,λi=>ks.getD i false,rfl,W,n,O8 v l o,λx t k=>?_⟩;have e:b.length=ks.length:=by rw[l,v.length]
 rw[e,range_all];exact⟨.bl _,H,B x t k,rfl,q⟩
def Bq (d:X.calm=true):yw X (.builtin "any") (Rn X.K λks=>ks.any id):=by
 intro P s A H C U Q I r h;obtain⟨a,Y,ks,rfl,z,l,o,q⟩:=h;obtain⟨u,rfl,c⟩:=vals1 r;cases c;refine call_any_walk (G7 I d z λb f y j S D v g W n p B=>?_);refine⟨f,y,j,_,_,S,λi=>ks.getD i false,rfl,W,n,O8 v l o,λx t k=>?_⟩;have e:b.length=ks.length:=by rw[l,v.length]
 rw[e,range_any];exact⟨.bl _,H,B x t k,rfl,q⟩
noncomputable def Zk (f:List Bool->Bool):List W->Hx->R W:=λa A=>match gH a with|some K=>.ok (.bl (f K)) A|none=>.bad
def MJ {f:List Bool->Bool}:∀ws A,qW (Zk f ws A):=λws A=>by
 unfold Zk;split
 ·exact j5
 ·exact jc
def Nz {f:List Bool->Bool}:Jj K (Rn K f) (Zk f):=λb A H a y c Q S z r p=>by
 unfold Zk at p;cases e:gH c with
 |none=>rw[e]at p;exact p.elim|some d=>
  rw[e]at p;exact⟨a,y,d,rfl,z,by rw[Oh e,r.length],P4 r e,p b H _ .refl S rfl⟩
abbrev Kh:=Zk λK=>K.all id
abbrev WU:=Zk λK=>K.any id
def Dw:qS X (compareOp .IsNot) (λx y H Q=>∃i j,x=.bl i/\y=.bl j/\Q (.bl (!(i==j))) H):=by intro p s b H x y v u Q I a r h;obtain⟨i,j,rfl,rfl,q⟩:=h;cases a;cases r;exact isnot_bool ⟨.bl _,H,I,rfl,q⟩
noncomputable def S6:W->Bool
 |.non=>true|_=>false
def Dd {w:W}(q:RV K φ H w v):decide (v=.non)=S6 w:=by
 cases w with|non=>obtain rfl:=q;rfl|bl b=>obtain rfl:=q;rfl|clo _ _ _=>obtain⟨a,_,_,_,_,_,_,rfl,_⟩:=q;rfl|xc _=>obtain⟨a,_,_,_,rfl,_⟩:=q;rfl|fn _=>obtain⟨a,rfl,_⟩:=q;rfl|int b=>obtain rfl:=q;rfl|str b=>obtain rfl:=q;rfl|tup c=>obtain⟨a,d,rfl,_⟩:=q;rfl|ref n=>obtain⟨a,rfl,_⟩:=q;rfl
def VC (n:Bool):W->W->Hx->R W:=λx y A=>match x,y with|.bl i,.bl j=>.ok (.bl (if n then !(i==j) else i==j)) A|w,.non=>.ok (.bl (if n then !S6 w else S6 w)) A|_,_=>.bad
def fE {n:Bool}:∀x y A,qW (VC n x y A):=λx y A=>by
 unfold VC;split
 ·exact j5
 ·exact j5
 ·exact jc
def DF:yB K (λx y H Q=>(y=.non/\Q (.bl (!decide (x=.non))) H)∨∃i j,x=.bl i/\y=.bl j/\Q (.bl (!(i==j))) H) (VC true):=λc A H x y u v Q S b a p=>by
 cases v with
 |non=>
  have q:y=.non:=a;refine .inl ⟨q,?_⟩;rw[Dd b];cases u<;>exact p c H _ .refl S rfl
 |bl j=>
  cases u with|bl i=>obtain rfl:=b;obtain rfl:=a;exact .inr ⟨i,j,rfl,rfl,p c H _ .refl S rfl⟩|_=>exact p.elim
 |_=>cases u<;>exact p.elim
def fF:gc X .IsNot (VC true):=JK (dV.or Dw) fE DF
end
noncomputable def Lx (o S:Scope):Bool:=S.kind==.function&&decide ((S.names.map (·.1)).Nodup)&&S.names.all λy=>y.2 != .free || (o.names.lookup y.1==some .cell || o.names.lookup y.1==some .free)
def cps (h:Lx X.env.scope sc=true):gE X sc:=by
 unfold Lx at h;rw[ak,ak,ao,aL,aY]at h;refine⟨h.1.1,h.1.2,λy H e=>?_⟩
 have:=h.2 y H
 rw[e]at this;simp only[bne_self_eq_false,Bool.false_or,a3,aL]at this;exact this
section
variable {xr:XR}{K:Frag}{a b:Expr}{ma mb:Ev}
theorem zL.lst {b:bR}{A:Hx}{H:Hp}{n:Nat}{c:List W}{v:V}(S:zL K b A H)(q:RV K b H (.ref n) v)(e:A[n]? =some (.lst c)):∃p vs,v=.ref p/\b[n]? =some p/\H p=some (.lst vs)/\zC K b H c vs:=by obtain⟨p,rfl,f⟩:=q;obtain⟨P,d,vs,a,h⟩:=S.ob n _ e;rw[f]at d;cases d;exact⟨p,vs,rfl,f,a,h⟩
def Cy {p:Program}{w:World}{A:Around}{s:Shared}{t b:Addr}{f:bQ}(i:IsTup s.heap t ([]:bQ).toArray)(a:IsTup s.heap b f.toArray)(j:Q (.ref b) s):
  wpAny (model p w) A (binaryOp .Add (.ref t) (.ref b)) Q E s:=by
 obtain⟨⟨r,q,data,l⟩,o,c,n,g⟩:=id i;obtain⟨⟨C,d,D,S⟩,h,H,N,e⟩:=id a;simp only at c g H e;subst c g H e;exact concat_meets ⟨_,o,rfl⟩ ⟨_,h,rfl⟩ noFill_tuple_add seq_tuple_add slot_tuple_add entry_tuple_add (args_tuple_add_2 _ _)
   (tuple_addW0 t b ([]:bQ).toArray f.toArray n N q d l S (by simp)) ⟨o,h,j⟩
def MH (K:Frag):R2:=λx y H Q=>∃a b Y,x=.ref a/\y=.ref b/\qz K H a []/\qz K H b Y/\Q (.ref b) H
def Cz:qS X (binaryOp .Add) (MH X.K):=by intro l s n H x y v u Q I c r h;obtain⟨a,b,Y,rfl,rfl,g,f,q⟩:=h;cases c;cases r;obtain⟨e,d,P,_⟩:=I.tuple g;obtain⟨i,j,p,_⟩:=I.tuple f;cases d;exact Cy P p ⟨.ref b,H,I,rfl,q⟩
def qJ:W->W->Hx->R W:=λx y A=>match x,y with
 |.int i,.int j=>.ok (.int (i+j)) A|.tup X,.tup Y=>if X.length+Y.length<=zX then .ok (.tup (X++Y)) A else .bad|.ref n,.ref k=>match A[n]?,A[k]? with|some (.lst X),some (.lst Y)=>if X.length+Y.length<=zX then .ok (.ref A.length) (A++[.lst (X++Y)]) else .bad|_,_=>.bad
 |_,_=>.bad
def fG:∀x y A,qW (qJ x y A):=λx y A=>by
 unfold qJ
 split
 ·exact j5
 ·exact Z5 j5 jc
 ·split
  ·exact Z5 j5 jc
  ·exact jc
 ·exact jc
def YC (h:n<=zX):n<=sizeLine:=by
 have:sizeLine=16777216:=sizeLine_eq
 unfold zX at h;lia
def Aq:yB K (λx y H Q=>Zm (λi j=>.int (i+j)) x y H Q∨M4 K x y H Q∨MH K x y H Q∨Ly x y H Q) qJ:=λL A H x y u v Q S d q p=>by
 cases u with
 |int i=>cases v with|int j=>obtain rfl:=d;obtain rfl:=q;exact .inl ⟨i,j,rfl,rfl,p L H _ .refl S rfl⟩|_=>exact p.elim
 |tup X=>cases v with
  |tup Y=>
   obtain⟨M,b,rfl,T,c⟩:=d;obtain⟨a2,a,rfl,t,r⟩:=q;unfold qJ at p;dsimp only at p
   by_cases h:X.length+Y.length<=zX
   ·rw[ai h]at p
    by_cases C:b=[]
    ·subst C
     have E:X=[]:=by
      have:=c.length
      simpa using this
     subst E;exact .inr (.inr (.inl ⟨M,a2,a,rfl,rfl,T,t,p L H _ .refl S ⟨a2,a,rfl,t,r⟩⟩))
    ·refine .inr (.inl ⟨M,a2,b,a,rfl,rfl,T,t,C,by rw[<- c.length,<- r.length];exact YC h,λe=>?_,λne l f=>?_⟩)
     ·subst e
      have E:Y=[]:=by
       have:=r.length
       simpa using this
      subst E;rw[a5]at p;exact p L H _ .refl S ⟨M,b,rfl,T,c⟩
     ·obtain⟨o,g,B⟩:=Qy S f (c.append r)
      exact p _ _ _ o g B
   ·rw[aj h]at p;exact p.elim
  |_=>exact p.elim
 |ref n=>cases v with
  |ref k=>
   unfold qJ at p;dsimp only at p;cases e1:A[n]? with
   |none=>rw[e1]at p;exact p.elim|some J=>cases J with
    |lst X=>
     cases e2:A[k]? with
     |none=>rw[e1,e2]at p;exact p.elim|some I=>cases I with
      |lst Y=>
       rw[e1,e2]at p;dsimp only at p;obtain⟨D,U,rfl,f1,g1,c⟩:=S.lst d e1;obtain⟨P,N,rfl,f2,Z,r⟩:=S.lst q e2
       by_cases h:X.length+Y.length<=zX
       ·rw[ai h]at p
        refine .inr (.inr (.inr ⟨D,P,U,N,rfl,rfl,g1,Z,by rw[<- c.length,<- r.length];exact YC h,λl f=>?_⟩))
        obtain⟨o,g,B⟩:=Q6 S f (c.append r);exact p _ _ _ o g B
       ·rw[aj h]at p;exact p.elim
      |_=>rw[e1,e2]at p;exact p.elim
    |_=>rw[e1]at p;exact p.elim
  |_=>exact p.elim
 |_=>cases v<;>exact p.elim
def qE:W->W->Hx->R W:=λx y A=>match x,y with
 |.int i,.int j=>if Kl i j then .ok (.int (i * j)) A else .bad|.ref n,.int k=>match A[n]? with|some (.lst xs)=>if jG k&&decide (xs.length * k.toNat<=zX) then .ok (.ref A.length) (A++[.lst (List.replicate k.toNat xs).flatten]) else .bad|_=>.bad
 |_,_=>.bad
def fH:∀x y A,qW (qE x y A):=λx y A=>by
 unfold qE
 split
 ·exact Z5 j5 jc
 ·split
  ·exact Z5 j5 jc
  ·exact jc
 ·exact jc
theorem zC.rep {a:List W}(r:zC K φ H a vs):∀n:Nat,zC K φ H (List.replicate n a).flatten (List.replicate n vs).flatten
 |0=>.nil|n+1=>by rw[a9,a9,a7,a7];exact r.append (zC.rep r n)
def fJ:yB K (λx y H Q=>rI WN (λi j=>.int (i * j)) x y H Q∨LW x y H Q) qE:=λf A H x y u v Q S a q p=>by
 cases v with
 |int j=>cases u with
  |int i=>
   obtain rfl:=a;obtain rfl:=q;unfold qE at p;dsimp only at p
   by_cases c:Kl i j=true
   ·rw[ai c]at p;exact .inl ⟨i,j,rfl,rfl,fh i j c,p f H _ .refl S rfl⟩
   ·rw[aj c]at p;exact p.elim
  |ref n=>
   obtain rfl:=q;unfold qE at p;dsimp only at p;cases e1:A[n]? with
   |none=>rw[e1]at p;exact p.elim|some o=>cases o with
    |lst X=>
     rw[e1]at p;dsimp only at p;obtain⟨P,g,rfl,D,t,r⟩:=S.lst a e1
     by_cases h:(jG j&&decide (X.length * j.toNat<=zX))=true
     ·rw[ai h]at p
      rw[ak,ao]at h;obtain⟨e,B⟩:=Yw h.1;refine .inr ⟨P,j,g,rfl,rfl,t,by lia,by lia,by rw[<- r.length];exact YC h.2,λl b=>?_⟩
      obtain⟨c1,d,C⟩:=Q6 S b (r.rep j.toNat);exact p _ _ _ c1 d C
     ·rw[aj h]at p;exact p.elim
    |_=>rw[e1]at p;exact p.elim
  |_=>exact p.elim
 |_=>cases u<;>exact p.elim
def kg:W->W->Hx->R W:=λx y A=>match x with
 |.ref n=>match A[n]? with|some (.lst ws)=>if ws.length<zX then .ok .non (A.set n (.lst (ws++[y]))) else .bad|_=>.bad
 |_=>.bad
noncomputable def Qn (x:W)(A:Hx):Bool:=match x with
 |.ref n=>match A[n]? with|some (.lst _)=>true|_=>false
 |_=>false
def CJ {A:Hx}{w:W}(S:zL K φ A H)(q:RV K φ H w v)(e:Qn w A=true):VQ K "list" v H:=by
 unfold Qn at e;cases w with
 |ref n=>
  dsimp only at e;cases e1:A[n]? with
  |none=>rw[e1]at e;cases e|some o=>cases o with|lst a=>obtain⟨p,b,rfl,_,h,_⟩:=S.lst q e1;exact .inl ⟨rfl,_,qX.of h⟩|_=>rw[e1]at e;cases e
 |_=>cases e
def yu (g:W->W->Hx->R W)(a b:Ev):Ev:=λc A=>(a c A).bind λx d=>if Qn x d then(b c d).bind λy e=>g x y e else .bad
def X0 {nm:Str}{id:String}{r:V->List V->Hp->VK->Prop}{g:W->W->Hx->R W}(J:Slot "list" nm id)(i:typeOf (.builtin id)=pure (.type "method_descriptor"))(U:Kr X id r)(T:∀x y A,qW (g x y A))
  (D:∀φ A H x y u v Q,zL X.K φ A H->RV X.K φ H u x->RV X.K φ H v y->(g u v A).post (PB X.K φ H Q) ZP->r x [y] H Q)(C:SE X xr a ma)(Y:SE X xr b mb)
  (n:ja b [] X)(c:attributeBase a nm X.env (eval a X.env)=eval a X.env)
  (d:((backTo o8 (starEach [b] X.env)).all (λx=>!x.1)&&(backToKw o8 (keywordEach [] X.env)).all (λx=>x.1.isSome)
   && decide ([b].length+([]:b8).length+(if ([]:b8).isEmpty then 0 else 1)<30))=true)(e:(oR.endLine==o8.line)=true):
  SE X xr (.Call (.Attribute a nm oR) [b] [] o8) (yu g ma mb):=
 PE.imp (Lo PySem.F.plainAttrs_list J i U C (jw Y yg n) c d e n (by rfl)) λσ H Q ⟨φ,A,ρ,S,N,h⟩=>by
  refine tM.go S N (zV.mp h) λw A1 p H1 v M l o q=>?_
  by_cases j:Qn w A1=true
  ·rw[ai j]at M
   refine⟨CJ o q j,?_⟩;refine tM.go o (N.mono l) (qy (zV.mp M) (λ_ _ z=>z) λ_ _ z=>z.mono l) λt A2 f I P Z L E B=>?_;exact D f A2 I v P w t Q E (q.mono L) B (qy (YH (T _ _ _) Z) (λ_ _ z=>z.mono (l.trans L)) λ_ _ z=>z)
  ·rw[aj j]at M;exact M.elim
def DQ:∀x y A,qW (kg x y A):=λx y A=>by
 unfold kg
 split
 ·split
  ·exact Z5 j5 jc
  ·exact jc
 ·exact jc
def Z8:W->W->Hx->R W:=λx y A=>match x,y with
 |.ref n,.int i=>match A[n]? with
  |some (.lst ws)=>match (if jG i then seqIndex? i ws.length else none) with
   |some k=>match ws[k]? with|some w=>.ok w (A.set n (.lst (ws.eraseIdx k)))|none=>.bad
   |none=>.bad
  |_=>.bad
 |_,_=>.bad
def B7:∀x y A,qW (Z8 x y A):=λx y A=>by
 unfold Z8
 split
 ·split
  ·split
   ·split
    ·exact j5
    ·exact jc
   ·exact jc
  ·exact jc
 ·exact jc
def wQ:W->W->W->Hx->R Unit:=λo i v A=>match o,i with
 |.ref n,.int k=>match A[n]? with
  |some (.lst ws)=>match gu ws.length k with|some j=>.ok () (A.set n (.lst (ws.set j v)))|none=>.bad
  |_=>.bad
 |_,_=>.bad
def Md:∀o i v A,qW (wQ o i v A):=λo i v A=>by
 unfold wQ
 split
 ·split
  ·split
   ·exact j5
   ·exact jc
  ·exact jc
 ·exact jc
def N0:MU K MV wQ:=λu A H o i v b a wv Q S f e q p=>by
 unfold wQ at p;cases b with
 |ref n=>cases a with
  |int k=>
   obtain rfl:=e;dsimp only at p;cases e1:A[n]? with
   |none=>rw[e1]at p;exact p.elim|some g=>cases g with
    |lst h=>
     rw[e1]at p;dsimp only at p;cases e2:gu h.length k with
     |none=>rw[e2]at p;exact p.elim|some j=>
      rw[e2]at p;obtain⟨l,x,rfl,y,t,r⟩:=S.lst f e1;have L:Le K u H u (upd H l (.lst (x.set j v))):=Le.upd y (λX z=>by rw[t]at z;cases z) (λ_ _ z=>by rw[t]at z;cases z)
      obtain⟨d,c⟩:=S.write (o:=.lst h) (o':=.lst (h.set j wv)) e1 rfl rfl y ⟨_,jN,(r.mono L).set (q.mono L) j⟩;exact⟨l,x,k,j,rfl,rfl,t,by rw[<- r.length];exact e2,p _ _ d c⟩
    |_=>rw[e1]at p;exact p.elim
  |_=>exact p.elim
 |_=>cases a<;>exact p.elim
variable {es:bW}{m:Ev}
def fK {id:String}{g:W->Hx->R W}(i:yw X (.type id) r)(q:∀w A,qW (g w A))(f:Rz X.K (λv=>r [v]) g)(t:X.mg x=none)(d:bootBuiltins x=some (.type id))(j:SE X xr e m)(b:Gl X x:=by rfl)
  (a:x ≠ "__name__":=by decide)(c:yA x:=by decide)(n:ja e [] X:=by rfl)(l:we o6 [] X:=by rfl):
  SE X xr (.Call (.Name x p) [e] [] o6) (g7 g m):=PE.imp (KU i b t d (jw j yg n) a c n l) λo H Q h=>g7.read (r:=λv=>r [v]) q f o H Q h
def MY {id:String}{g:W->W->Hx->R W}(o:yw X (.builtin id) r)(B:∀w i A,qW (g w i A))(n:yB X.K (λv c=>r [v,c]) g)(C:X.mg x=none)(j:bootBuiltins x=some (.builtin id))(t:SE X xr a ma)(q:SE X xr b mb)(e:Gl X x)
  (d:x ≠ "__name__")(f:yA x)(u:ja a [b] X)(D:ja b [] X)(l:we o6 [b] X):
  SE X xr (.Call (.Name x p) [a,b] [] o6) (zm g ma mb):=PE.imp (QZ o e C j (jw t (jw q yg D) u) d f u l) λy H Q h=>zm.read (r:=λv c=>r [v,c]) B n y H Q h
noncomputable def LO:W->Hx->R W
 |.int i,A=>.ok (.int i) A|.bl k,A=>.ok (.int (if k then 1 else 0)) A|_,_=>.bad
def SN:=ZA λi j=>.int (if j > i then j else i)
def Rf:=ZA λi j=>.int (if j<i then j else i)
noncomputable def yx:W->Bool
 |.tup _=>false|.ref _=>false|.clo _ _ _=>false|.xc _=>false|.fn _=>false|_=>true
noncomputable def J0:W->W->Bool
 |.non,.non=>true|.bl a,.bl b=>a==b|.bl a,.int b=>(if a then 1 else 0)==b|.int a,.bl b=>a==(if b then 1 else 0)|.int a,.int b=>a==b|.str a,.str b=>a==b|_,_=>false
def Ko (x:W)(X:List W):Bool:=X.any λy=>J0 y x
def KZ {w:W}(q:RV K φ H w v)(e:yx w=true):wq v=true:=by
 cases w<;>first
  |(cases e;done)
  |(obtain rfl:=q;rfl)
def OH {w a:W}{b:V}(q:RV K φ H w v)(Q:RV K φ H a b)(e:yx w=true)(E:yx a=true):g9 v b=J0 w a:=by
 cases w<;>cases a<;>first
  |(cases e;done)
  |(cases E;done)
  |(obtain rfl:=q;obtain rfl:=Q;rfl)
theorem O3 {x:W}(q:RV K φ H x v)(e:yx x=true):∀{X:List W}{a:List V},zC K φ H X a->X.all yx=true->a.all wq=true/\VI v a=Ko x X
 |[],_,r,_=>by cases r;exact⟨rfl,rfl⟩|w::ws,_,⟨y,r,e1,h,t⟩,h2=>by
  subst e1;rw[bL,ak]at h2;obtain⟨I,i⟩:=O3 q e t h2.2;refine⟨by rw[bL,KZ h h2.1,I];rfl,?_⟩
  unfold VI Ko at i ⊢;rw[any_cons,any_cons,i,OH h q h2.1 e]
def JZ (n:Bool):W->W->Hx->R W:=λx y A=>match zW y A with|some a=>if yx x&&a.all yx then .ok (.bl (if n then !Ko x a else Ko x a)) A else .bad|none=>.bad
abbrev Ie:=JZ false
def fL {n:Bool}:∀x y A,qW (JZ n x y A):=λx y A=>by
 unfold JZ
 split
 ·exact Z5 j5 jc
 ·exact jc
def fM {n:Bool}:yB K (Iw K n) (JZ n):=λc A H x y u v Q S q b p=>by
 unfold JZ at p;cases es:zW v A with
 |none=>rw[es]at p;exact p.elim|some d=>
  rw[es]at p;dsimp only at p
  by_cases h:(yx u&&d.all yx)=true
  ·rw[ai h]at p
   rw[ak]at h;obtain⟨a,Y,rfl,z,r⟩:=GH S b es;obtain⟨I,i⟩:=O3 q h.1 r h.2;exact⟨a,Y,rfl,z,KZ q h.1,I,by rw[i];exact p c H _ .refl S rfl⟩
  ·rw[aj h]at p;exact p.elim
structure LS (X:Cx)(op:CmpOp)(g:W->W->Hx->R W):Prop where
 ex:∃r:R2,qS X (compareOp op) r/\(∀x y A,qW (g x y A))/\yB X.K r g
def fO:LS X .In Ie:=⟨_,Co,fL,fM⟩
end
noncomputable def yF (f:W->Option PyData):List W->Option (List PyData)
 |[]=>some []|w::ws=>match f w,yF f ws with|some d,some D=>some (d::D)|_,_=>none
def qC (A:Hx):Nat->W->Option PyData
 |_,.non=>some .none|_,.bl b=>some (.bool b)|_,.int i=>some (.int i)|_,.str x=>if PyData.strOk x then some (.str x) else none|_,.clo _ _ _=>none|_,.xc _=>none|_,.fn _=>none|0,.tup _=>none|0,.ref _=>none|n+1,.tup ws=>(yF (qC A n) ws).map .tuple|n+1,.ref k=>match zW (.ref k) A with|some ws=>(yF (qC A n) ws).map .list|none=>none
def CA {K:Frag}{A:Hx}{u:List W}(S:zL K φ A H)(q:RV K φ H (.ref n) v)(e:zW (.ref n) A=some u):∃a ys,v=.ref a/\qX K H a ys/\zC K φ H u ys:=by
 obtain⟨a,rfl,c⟩:=q;unfold zW at e;dsimp only at e;cases E:A[n]? with
 |none=>rw[E]at e;cases e|some o=>
  rw[E]at e;obtain⟨d,b,r⟩:=S.ob n o E;rw[c]at b;cases b;cases o with|lst x=>cases e;obtain⟨ys,f,h⟩:=r;exact⟨a,ys,rfl,qX.of f,h⟩|ro x=>cases e;obtain⟨ys,f,h⟩:=r;exact⟨a,ys,rfl,f.sq,h⟩|dct x=>cases e|td _=>cases e|tr _=>cases e|tab _ _=>cases e
section
variable {a:Expr}
theorem UN {K:Frag}{f:W->Option PyData}(l:∀w v u d,RV K φ H w v->RelV v u->f w=some d->∃A,Reads h u d A):
  ∀{g:List W}{j:List V}{U:bQ}{i:List PyData},zC K φ H g j->Vals j U->yF f g=some i->∃A,ReadsAll h U i A
 |[],_,_,_,r,a,e=>by cases r;cases a;cases e;exact⟨[],.nil⟩|w::g,_,_,i,⟨v,r,e1,q,t⟩,a,e=>by
  subst e1;cases a with
  |cons c b=>
   unfold yF at e;cases e2:f w with
   |none=>rw[e2]at e;cases e|some d=>
    cases E:yF f g with
    |none=>rw[e2,E]at e;cases e|some D=>
     rw[e2,E]at e;cases e;obtain⟨A,o⟩:=l w v _ d q c e2;obtain⟨bs,n⟩:=UN l t b E;exact⟨_,.cons o n⟩
def G6 {s:Shared}{A:Hx}(I:Inv X o5 σ H s)(S:zL X.K φ A H):∀(n:Nat)(w:W)(v:V)(u:Value)(d:PyData),RV X.K φ H w v->RelV v u->qC A n w=some d->∃B,Reads s.heap u d B:=by
 intro n
 induction n with
 |zero=>
  intro w v u d q r e;cases w with
  |non=>obtain rfl:=q;cases r;cases e;exact⟨_,.none⟩|bl k=>obtain rfl:=q;cases r;cases e;exact⟨_,.bool k⟩|int k=>obtain rfl:=q;obtain⟨t,rfl⟩:=r;cases e;exact⟨_,.int k t⟩|str k=>
   obtain rfl:=q;obtain⟨t,rfl⟩:=r;unfold qC at e
   split at e
   ·cases e;exact⟨_,.str k t⟩
   ·cases e
  |tup _=>cases e|ref _=>cases e|clo _ _ _=>unfold qC at e;cases e|xc _=>unfold qC at e;cases e|fn _=>unfold qC at e;cases e
 |succ n j=>
  intro w v u d q r e;cases w with
  |non=>obtain rfl:=q;cases r;cases e;exact⟨_,.none⟩|bl k=>obtain rfl:=q;cases r;cases e;exact⟨_,.bool k⟩|clo _ _ _=>unfold qC at e;cases e|xc _=>unfold qC at e;cases e|fn _=>unfold qC at e;cases e|int k=>obtain rfl:=q;obtain⟨t,rfl⟩:=r;cases e;exact⟨_,.int k t⟩|str k=>
   obtain rfl:=q;obtain⟨t,rfl⟩:=r;unfold qC at e
   split at e
   ·cases e;exact⟨_,.str k t⟩
   ·cases e
  |tup p=>
   obtain⟨a,C,rfl,h,c⟩:=q;cases r;unfold qC at e;cases e1:yF (qC A n) p with
   |none=>rw[e1]at e;cases e|some D=>
    rw[e1]at e;cases e;obtain⟨i,b,⟨o,y,x,k,g⟩,_⟩:=I.tuple h;obtain⟨B,f⟩:=UN j c b e1;exact⟨_,.tuple y x g (by simpa using f)⟩
  |ref k=>
   unfold qC at e;cases e1:zW (.ref k) A with
   |none=>rw[e1]at e;cases e|some p=>
    rw[e1]at e;dsimp only at e;obtain⟨a,Y,rfl,h,c⟩:=CA S q e1;cases r;cases e2:yF (qC A n) p with
    |none=>rw[e2]at e;cases e|some D=>
     rw[e2]at e;cases e;obtain⟨i,b,⟨o,l,y,x,_,g⟩,_⟩:=I.list h;obtain⟨B,f⟩:=UN j c b e2;exact⟨_,.list y x g (by simpa using f)⟩
def DA {A:Hx}:∀(n:Nat)(w:W)(d:PyData),qC A n w=some d->d.canLay0=true/\d.depth<=n:=by
 intro n;have lst:∀{n:Nat},(∀(w:W)(d:PyData),qC A n w=some d->d.canLay0=true/\d.depth<=n)->∀(ws:List W)(ds:List PyData),yF (qC A n) ws=some ds->PyData.canLayAll0 ds=true/\PyData.depthAll ds<=n:=by
  intro n i ws
  induction ws with
  |nil=>intro ds e;cases e;exact⟨by simp[PyData.canLayAll0],by simp[PyData.depthAll]⟩|cons w ws I=>
   intro ds e;unfold yF at e;cases e2:qC A n w with
   |none=>rw[e2]at e;cases e|some d=>
    cases E:yF (qC A n) ws with
    |none=>rw[e2,E]at e;cases e|some D=>
     rw[e2,E]at e;cases e;obtain⟨b,c⟩:=i w d e2;obtain⟨H,a⟩:=I D E;refine⟨by simp[PyData.canLayAll0,b,H],?_⟩
     simp only[PyData.depthAll];lia
 induction n with
 |zero=>
  intro w d e;cases w with
  |tup _=>cases e|ref _=>cases e|clo _ _ _=>unfold qC at e;cases e|xc _=>unfold qC at e;cases e|fn _=>unfold qC at e;cases e|str x=>
   unfold qC at e
   split at e
   ·rename_i h;cases e;exact⟨by simp[PyData.canLay0,h],by simp[PyData.depth]⟩
   ·cases e
  |_=>cases e;exact⟨by simp[PyData.canLay0],by simp[PyData.depth]⟩
 |succ n i=>
  intro w d e;cases w with
  |clo _ _ _=>unfold qC at e;cases e|xc _=>unfold qC at e;cases e|fn _=>unfold qC at e;cases e|tup ws=>
   unfold qC at e;cases e1:yF (qC A n) ws with
   |none=>rw[e1]at e;cases e|some ds=>
    rw[e1]at e;cases e;obtain⟨b,c⟩:=lst i ws ds e1;refine⟨by simp[PyData.canLay0,b],?_⟩
    simp only[PyData.depth];lia
  |ref k=>
   unfold qC at e;cases e1:zW (.ref k) A with
   |none=>rw[e1]at e;cases e|some ws=>
    rw[e1]at e;dsimp only at e;cases e2:yF (qC A n) ws with
    |none=>rw[e2]at e;cases e|some ds=>
     rw[e2]at e;cases e;obtain⟨b,c⟩:=lst i ws ds e2;refine⟨by simp[PyData.canLay0,b],?_⟩
     simp only[PyData.depth];lia
  |str x=>
   unfold qC at e
   split at e
   ·rename_i h;cases e;exact⟨by simp[PyData.canLay0,h],by simp[PyData.depth]⟩
   ·cases e
  |_=>cases e;exact⟨by simp[PyData.canLay0],by simp[PyData.depth]⟩
noncomputable def gi (n:Bool):W->W->Hx->R W:=λx y A=>match qC A 8 x,qC A 8 y with|some d,some D=>.ok (.bl (if n then !PyData.eqv d D else PyData.eqv d D)) A|_,_=>.bad
abbrev jQ:=gi false
abbrev ju:=gi true
def Ma {n:Bool}:∀x y A,qW (gi n x y A):=λx y A=>by
 unfold gi
 split
 ·exact j5
 ·exact jc
def Rq (K:Frag)(n:Bool):R2:=λx y H Q=>∃a A u v d D,zL K a A H/\RV K a H u x/\RV K a H v y/\qC A 8 u=some d/\qC A 8 v=some D/\Q (.bl (if n then !PyData.eqv d D else PyData.eqv d D)) H
def Xt {A:Hx}{w:W}{d:PyData}(h:qC A 8 w=some d):SeqAt.shaped d=true:=by obtain⟨H,a⟩:=DA 8 w d h;unfold SeqAt.shaped;rw[H,Bool.true_and,ao];lia
def fP (i:X.A.units+64<cLine):qS X (compareOp .Eq) (Rq X.K false):=by intro p s o H x y v u Q I c r h;obtain⟨n,A,b,a,d,D,S,g,f,E,e,q⟩:=h;obtain⟨t,l⟩:=G6 I S 8 b x v d g c E;obtain⟨bs,j⟩:=G6 I S 8 a y u D f r e;exact eq_dataH l j (Xt E) (Xt e) i ⟨.bl _,H,I,rfl,q⟩
def fQ (i:X.A.units+64<cLine):qS X (compareOp .NotEq) (Rq X.K true):=by intro p s o H x y v u Q I c r h;obtain⟨n,A,b,a,d,D,S,g,f,E,e,q⟩:=h;obtain⟨t,l⟩:=G6 I S 8 b x v d g c E;obtain⟨bs,j⟩:=G6 I S 8 a y u D f r e;exact ne_dataH l j (Xt E) (Xt e) i ⟨.bl _,H,I,rfl,q⟩
def NM {K:Frag}{n:Bool}:yB K (Rq K n) (gi n):=λb A H x y u v Q S a q p=>by
 unfold gi at p;cases e1:qC A 8 u with
 |none=>rw[e1]at p;exact p.elim|some d=>
  cases e2:qC A 8 v with
  |none=>rw[e1,e2]at p;exact p.elim|some D=>
   rw[e1,e2]at p;exact⟨b,A,u,v,d,D,S,a,q,e1,e2,p b H _ .refl S rfl⟩
def kM {k:Nat}(h:jb k X.A):gc X .Eq jQ:=JK (fP h.units) Ma NM
def kN {k:Nat}(h:jb k X.A):gc X .NotEq ju:=JK (fQ h.units) Ma NM
end
mutual
noncomputable def W.nr:W->Bool
 |.tup a=>qR a|.ref _=>false|.clo _ a _=>qR a|_=>true
noncomputable def qR:List W->Bool
 |[]=>true|w::ws=>w.nr&&qR ws
end
def iso (f:Fn):Fn:=λu A=>if qR u then(match f u [] with
 |.ok w a=>(match w with
  |.ref n=>(match a[n]? with|some (.lst ws)=>if qR ws then .ok (.ref A.length) (A++[.lst ws]) else .bad|some (.dct kvs)=>if qR (kvs.map (·.2)) then .ok (.ref A.length) (A++[.dct kvs]) else .bad|_=>.bad)
  |w=>if w.nr then .ok w A else .bad)
 |_=>.bad) else .bad
def kx (f:Fn):Fn:=λu A=>match u with
 |.ref n::u=>(match A[n]? with
  |some (.lst ws)=>if qR ws&&qR u then(match f (.ref 0::u) [.lst ws] with
   |.ok w a=>(match (List.head? a:Option O) with|some (.lst ws2)=>if qR ws2&&w.nr then .ok w (A.set n (.lst ws2)) else .bad|_=>.bad)
   |_=>.bad) else .bad
  |_=>.bad)
 |_=>.bad
section
variable {K:Frag}{oP oU:bR}{H' H1:Hp}{A A1:Hx}
mutual
theorem RV.nrm (T:∀a vs,qz K H a vs->qz K H' a vs)(g:∀a o u,H a=some (.frz o u)->H' a=some (.frz o u)):∀{w:W}{v:V},w.nr=true->RV K φ H w v->RV K oP H' w v
 |.non,_,_,h=>h|.bl _,_,_,h=>h|.int _,_,_,h=>h|.str _,_,_,h=>h|.tup l,_,n,⟨a,vs,e,t,r⟩=>⟨a,vs,e,T _ _ t,zC.nrm T g n r⟩|.ref _,_,n,_=>nomatch n
 |.clo _ l P,_,n,⟨a,ob,u,c,d,U,vs,e,j,i,f,r⟩=>⟨a,ob,u,c,d,U,vs,e,g _ _ _ j,g _ _ _ i,f,zC.nrm T g n r⟩|.xc _,_,_,⟨a,b,u,C,e,j,i⟩=>⟨a,b,u,C,e,g _ _ _ j,i⟩|.fn _,_,_,h=>h
theorem zC.nrm (T:∀a c,qz K H a c->qz K H' a c)(f:∀a o u,H a=some (.frz o u)->H' a=some (.frz o u)):∀{b:List W}{c:List V},qR b=true->zC K φ H b c->zC K oP H' b c
 |[],_,_,h=>h|w::b,_,n,⟨v,r,e,h,t⟩=>by have N:(w.nr&&qR b)=true:=n;rw[ak]at N;exact⟨v,r,e,RV.nrm T f N.1 h,zC.nrm T f N.2 t⟩
end
def zL.none:zL K [] [] H:=⟨rfl,λi j a o b _ _ h=>by simp at h,λn o h=>by simp at h⟩
def zL.frame (S:zL K φ A H)(k:∀a o,H a=some o->H1 a=some o)(l:Le K φ H φ H1):zL K φ A H1:=
 ⟨S.len,S.inj,λn o e=>let ⟨a,b,q⟩:=S.ob n o e;⟨a,b,q.keep l λu h=>k a u h⟩⟩
def Le.apart (l:Le K [] H oU H1):Le K φ H φ H1/\∀a o,H a=some o->H1 a=some o:=
 have k:∀a o,H a=some o->H1 a=some o:=λa o h=>l.fr a o h λn e=>by simp at e
 ⟨⟨λ_ _ h=>h,l.tp,λa o h _=>k a o h,λ_ _ h=>.inl h,l.st,l.fz⟩,k⟩
def zL.trackN {u:HO}{o:O}(S:zL K φ A H)(J:H D=some u)(n:∀(k:Nat)(q:O),φ[k]? =some D->A[k]? =some q->q.mut=false)(new:OR K (φ++[D]) H D o):zL K (φ++[D]) (A++[o]) H:=by
 have l:QT K φ H (φ++[D]) H:=⟨λn a h=>by
  have:=(cm.mp h).1
  rw[ah this];exact h,λ_ _ h=>h,λ_ _ _ h=>h⟩
 have M:∀(i:Nat) a,(φ++[D])[i]? =some a->i<A.length->φ[i]? =some a:=λi a e f=>by rw[ah (by rw[S.len];exact f)]at e;exact e
 have N:∀a,(φ++[D])[A.length]? =some a->a=D:=λa e=>by
  rw[au (by rw[S.len];exact aq _),S.len]at e
  simpa using e.symm
 refine⟨by simp[S.len],λi j a E C Q P g b Y X=>?_,λk U e=>?_⟩
 ·by_cases f:i<A.length
  ·rw[ah f]at g
   by_cases c:j<A.length
   ·rw[ah c]at b
    exact S.inj i j a E C (M i a Q f) (M j a P c) g b Y X
   ·exfalso
    have y:j=A.length:=by have:=(cm.mp b).1;simp at this;lia
    subst y;have z:=n i E (by rw[<- N a P];exact M i a Q f) g
    rw[Y]at z;cases z
  ·have B:i=A.length:=by have:=(cm.mp g).1;simp at this;lia
   by_cases c:j<A.length
   ·exfalso
    rw[ah c]at b;subst B;have z:=n j C (by rw[<- N a Q];exact M j a P c) b
    rw[X]at z;cases z
   ·have:=(cm.mp b).1;simp at this;lia
 ·by_cases hn:k<A.length
  ·rw[ah hn]at e
   obtain⟨a,I,q⟩:=S.ob k U e;refine⟨a,l.ex _ _ I,?_⟩;cases U with|lst T=>obtain⟨L,z,r⟩:=q;exact⟨L,z,r.monoW l⟩|dct T=>obtain⟨L,z,Z,r⟩:=q;exact⟨L,z,Z,r.monoW l⟩|td _=>obtain⟨L,z,Z,t,r⟩:=q;exact⟨L,z,Z,λx p=>l.tp _ _ (t x p),r.monoW l⟩|tr _=>obtain⟨ob,u,L,z,d,Z,t,r⟩:=q;exact⟨ob,u,L,z,d,Z,λx p=>l.tp _ _ (t x p),r.monoW l⟩|tab _ _=>exact q|ro T=>obtain⟨L,z,r⟩:=q;exact⟨L,z,r.monoW l⟩
  ·have v:k=A.length:=by have:=(cm.mp e).1;simp at this;lia
   subst v;rw[au (aq _)]at e;simp at e;subst e;exact⟨D,by rw[au (by rw[S.len];exact aq _),S.len];simp,new⟩
def zL.adopt {o:O}(S:zL K φ A H)(l:Le K [] H oU H1)(p:oU[n]? =some a)(m:∃u,H1 a=some u)(new:OR K (φ++[a]) H1 a o):
  Le K φ H (φ++[a]) H1/\zL K (φ++[a]) (A++[o]) H1/\RV K (φ++[a]) H1 (.ref A.length) (.ref a):=by
 obtain⟨L,k⟩:=l.apart (φ:=φ);have j:H a=Option.none:=by
  rcases l.nw n a p with e|e
  ·simp at e
  ·exact e
 obtain⟨u,b⟩:=m;have g:=S.frame k L;refine⟨L.Y6 j,g.trackN b (λk q f d=>?_) new,a,rfl,by rw[<- S.len];simp⟩
 cases c:q.mut with
 |false=>rfl|true=>
  obtain⟨i,E,r⟩:=S.ob k q d;rw[f]at E;cases E;obtain⟨z,h,_⟩:=r.there c;rw[j]at h;cases h
def OR.nrL {b:List W}(h:OR K φ H a (.lst b))(n:qR b=true):OR K oP H a (.lst b):=let ⟨v,e,r⟩:=h;⟨v,e,r.nrm (λ_ _ t=>t) (λ_ _ _ t=>t) n⟩
def OR.nrD {b:List (Key×W)}(h:OR K φ H a (.dct b))(n:qR (b.map (·.2))=true):OR K oP H a (.dct b):=let ⟨v,e,E,r⟩:=h;⟨v,e,E,r.nrm (λ_ _ t=>t) (λ_ _ _ t=>t) n⟩
variable {w:World}
theorem qK.iso {k:Nat}{f:Fn}(F:qK P w K mg base k x n f):qK P w K mg base k x n (iso f):=by
 obtain⟨fa,fd,ps,F,a,b,c⟩:=F;refine⟨fa,fd,ps,F.imp λvs H Q E ⟨C,J,A,M,S,r,q⟩=>?_,a,b,c⟩;unfold Mi.iso at q
 by_cases T:qR M=true
 ·rw[ai T]at q
  refine⟨C,[],[],M,zL.none,r.nrm (λ_ _ t=>t) (λ_ _ _ t=>t) T,?_⟩;cases hf:f M [] with
  |ok w Z=>
   rw[hf]at q;dsimp only at q;intro u Y v L D g;cases w with
   |ref m=>
    dsimp only at q;cases hm:Z[m]? with
    |none=>rw[hm]at q;exact q.elim|some o=>
     rw[hm]at q;obtain⟨I,i,d⟩:=D.ob m o hm;obtain⟨a2,rfl,e⟩:=g;rw[i]at e;cases e;cases o with
     |lst U=>
      dsimp only at q
      by_cases h:qR U=true
      ·rw[ai h]at q
       obtain⟨t,N,_⟩:=d.there rfl;obtain⟨p,j,B⟩:=S.adopt L i ⟨t,N⟩ (o:=.lst U) (d.nrL h);exact q _ _ _ p j B
      ·rw[aj h]at q;exact q.elim
     |dct U=>
      dsimp only at q
      by_cases h:qR (U.map (·.2))=true
      ·rw[ai h]at q
       obtain⟨t,N,_⟩:=d.there rfl;obtain⟨p,j,B⟩:=S.adopt L i ⟨t,N⟩ (o:=.dct U) (d.nrD h);exact q _ _ _ p j B
      ·rw[aj h]at q;exact q.elim
     |ro U=>exact q.elim|td _=>exact q.elim|tr _=>exact q.elim|tab _ _=>exact q.elim
   |_=>
    all_goals
     dsimp only at q;obtain⟨l,X⟩:=L.apart (φ:=J)
     first
      |exact q J Y v l (S.frame X l) g
      |(
        split at q
        ·rename_i hw
         exact q J Y v l (S.frame X l) (RV.nrm (λ_ _ t=>t) (λ_ _ _ t=>t) hw g)
        ·exact q.elim)
  |exc y Z=>rw[hf]at q;exact q.elim|bad=>rw[hf]at q;exact q.elim
 ·rw[aj T]at q;exact q.elim
theorem qK.kx {k:Nat}{f:Fn}(F:qK P w K mg base k x n f):qK P w K mg base k x n (kx f):=by
 obtain⟨fa,fd,ps,F,a,b,c⟩:=F;refine⟨fa,fd,ps,F.imp λvs H Q E ⟨hl,φ,A,ws,S,r,q⟩=>?_,a,b,c⟩;unfold Mi.kx at q;cases ws with
 |nil=>exact q.elim|cons Z us=>cases Z with
  |ref n=>
   dsimp only at q;cases l:A[n]? with
   |none=>rw[l]at q;exact q.elim|some o=>cases o with
    |lst xs=>
     rw[l]at q;dsimp only at q
     by_cases hn:(qR xs&&qR us)=true
     ·rw[ai hn]at q
      rw[ak]at hn;obtain⟨v0,vr,rfl,q0,qr⟩:=r;obtain⟨p,ys,rfl,f1,g1,g⟩:=S.lst q0 l;have S0:zL K [p] [.lst xs] H:=by
       refine⟨rfl,λi j a o o' h1 h2 T N _ _=>?_,λm o e=>?_⟩
       ·have:=(cm.mp h1).1
        have:=(cm.mp h2).1
        simp at*;lia
       ·have:m=0:=by have:=(cm.mp e).1;simp at this;lia
        subst this;simp at e;subst e;exact⟨p,rfl,ys,g1,g.nrm (λ_ _ t=>t) (λ_ _ _ t=>t) hn.1⟩
      refine⟨hl,[p],[.lst xs],.ref 0::us,S0,.cons ⟨p,rfl,rfl⟩ (qr.nrm (λ_ _ t=>t) (λ_ _ _ t=>t) hn.2),?_⟩;cases hf:f (.ref 0::us) [.lst xs] with
      |ok w A1=>
       rw[hf]at q;dsimp only at q;intro C H1 v L S1 q1;cases h0:List.head? A1 with
       |none=>rw[h0]at q;exact q.elim|some o=>cases o with
        |lst zs=>
         rw[h0]at q;dsimp only at q
         by_cases hw:(qR zs&&w.nr)=true
         ·rw[ai hw]at q
          rw[ak]at hw;have apart:∀a o,a≠p->H a=some o->H1 a=some o:=λa o ne h=>L.fr a o h λm e=>by
           have:m=0:=by have:=(cm.mp e).1;simp at this;lia
           subst this;simp at e;exact ne e.symm
          have lf:Le K φ H φ H1:=⟨λ_ _ h=>h,L.tp,λa o h nn=>apart a o (λe=>nn n (by rw[e];exact f1)) h,λ_ _ h=>.inl h,L.st,L.fz⟩
          have hp:C[0]? =some p:=L.ex 0 p rfl;obtain⟨p',B,U,J,I⟩:=S1.ob 0 _ (by rw[<- List.head?_eq_getElem?];exact h0)
          rw[hp]at B;cases B;refine q φ H1 v lf ?_ (RV.nrm (λ_ _ t=>t) (λ_ _ _ t=>t) hw.2 q1);have mt:∀(i:Nat)(w:O),(A.set n (.lst zs))[i]? =some w->w.mut=true->∃M,A[i]? =some M/\M.mut=true:=λi w e mw=>by
           by_cases hi:i=n
           ·subst hi;exact⟨_,l,rfl⟩
           ·rw[av (Ne.symm hi)]at e;exact⟨w,e,mw⟩
          refine⟨by simp[S.len],λi j a o1 o2 h1 h2 T N m1 m2=>?_,λi w e=>?_⟩
          ·obtain⟨Y,B,k1⟩:=mt i o1 T m1
           obtain⟨X,J,k2⟩:=mt j o2 N m2;exact S.inj i j a Y X h1 h2 B J k1 k2
          ·by_cases hi:i=n
           ·subst hi
            have:i<A.length:=(cm.mp l).1
            rw[ar this]at e;cases e;exact⟨p,f1,U,J,I.nrm (λ_ _ t=>t) (λ_ _ _ t=>t) hw.1⟩
           ·rw[av (Ne.symm hi)]at e
            obtain⟨a,B,D⟩:=S.ob i w e;refine⟨a,B,?_⟩
            by_cases hm:w.mut=true
            ·have ne:a≠p:=λz=>hi (S.inj i n a w _ B (by rw[z];exact f1) e l hm rfl)
             exact D.keep lf λz hz=>apart a z ne hz
            ·cases w with
             |lst _=>exact absurd rfl hm|dct _=>exact absurd rfl hm|td _=>exact absurd rfl hm|tr _=>obtain⟨ob,u,vs,q,d,k,t,r⟩:=D;exact⟨ob,u,vs,lf.fz _ _ _ q,d,k,λx hx=>lf.tp _ _ (t x hx),r.mono lf⟩|tab _ _=>exact absurd rfl hm|ro ws=>
              obtain⟨vs,g,I⟩:=D;refine⟨vs,?_,I.mono lf⟩;rcases g with ⟨ob,g⟩|g
              ·refine .inl ⟨ob,apart a _ ?_ g⟩
               intro z;subst z;rw[g1]at g;cases g
              ·exact .inr g
         ·rw[aj hw]at q;exact q.elim
        |_=>rw[h0]at q;exact q.elim
      |exc y A1=>rw[hf]at q;exact q.elim|bad=>rw[hf]at q;exact q.elim
     ·rw[aj hn]at q;exact q.elim
    |_=>rw[l]at q;exact q.elim
  |_=>exact q.elim
end
section
variable {K:Frag}{a b:Expr}{es:bW}{m:Ev}{st:Stmt}
noncomputable def LD:Ex:=λ_ _=>.bad
noncomputable def intsOf:List W->Option (bP)
 |[]=>some []|w::ws=>match w with
  |.int i=>match intsOf ws with|some I=>some (i::I)|none=>none
  |_=>none
theorem GQ:∀{a:List W}{n:bP},intsOf a=some n->a=n.map W.int
 |[],_,e=>by cases e;rfl|w::a,n,e=>by
  unfold intsOf at e;cases w with
  |int i=>
   dsimp only at e;cases e2:intsOf a with|none=>rw[e2]at e;cases e|some I=>rw[e2]at e;cases e;rw[GQ e2];rfl
  |_=>cases e
noncomputable def yk:List Int->Int->Int
 |[],m=>m|i::is,m=>yk is (if i > m then i else m)
noncomputable def kQ:List Int->Int->Int
 |[],m=>m|i::is,m=>kQ is (m+i)
def preSum_eq (n:bP):∀k,preSum (λi=>n.getD i 0) k+kQ (n.drop k) 0=kQ n 0∨n.length<k:=by
 have add:∀(l:bP)(m:Int),kQ l m=m+kQ l 0:=λl=>by
  induction l with|nil=>intro m;show m=m+0;lia|cons i b I=>intro m;show kQ b (m+i)=m+kQ b (0+i);rw[I (m+i),I (0+i)];lia
 intro k
 induction k with
 |zero=>left;show(0:Int)+kQ n 0=_;lia|succ k I=>
  rcases I with I|I
  ·by_cases h:k<n.length
   ·left
    have e:n.drop k=n[k]::n.drop (k+1):=List.drop_eq_getElem_cons h;rw[e]at I;have a:kQ (n[k]::n.drop (k+1)) 0=n[k]+kQ (n.drop (k+1)) 0:=by show kQ (n.drop (k+1)) (0+n[k])=_;rw[add];lia
    rw[a]at I;show preSum _ k+n.getD k 0+_=_;have E:n.getD k 0=n[k]:=by rw[aa,ae h];rfl
    rw[E];lia
   ·right;lia
  ·right;lia
def Di (n:bP):preSum (λi=>n.getD i 0) n.length=kQ n 0:=by
 rcases preSum_eq n n.length with h|h
 ·rw[drop_length]at h
  have:kQ [] 0=0:=rfl
  lia
 ·lia
def Dk (n:bP):∀(k:Nat)(a:k<n.length),yk (n.drop (k+1)) (n.getD (argBest (λi j=>decide (n.getD i 0 > n.getD j 0)) k) 0)=yk n.tail (n.getD 0 0):=by
 intro k
 induction k with
 |zero=>intro _;rw[show argBest _ 0=0 from rfl,List.drop_one]|succ k I=>
  intro a;have H:k<n.length:=by lia
  rw[<- I H];have e:n.drop (k+1)=n[k+1]::n.drop (k+1+1):=List.drop_eq_getElem_cons a;rw[e];have E:n.getD (k+1) 0=n[k+1]:=by rw[aa,ae a];rfl
  show yk _ (n.getD (if decide (n.getD (k+1) 0 > n.getD (argBest _ k) 0)=true then k+1 else argBest _ k) 0)=yk _ (if n[k+1] > n.getD (argBest _ k) 0 then n[k+1] else n.getD (argBest _ k) 0);rw[E]
  by_cases h:n[k+1] > n.getD (argBest (λi j=>decide (n.getD i 0 > n.getD j 0)) k) 0
  ·rw[ai (by rw[ao];exact h),ai h,E]
  ·rw[aj (by rw[ao];exact h),aj h]
def X7 (K:Frag)(C:List Int->Prop)(f:List Int->Int):List V->Hp->VK->Prop:=λx H Q=>∃a n,x=[.ref a]/\(qX K H a (n.map V.int)∨qz K H a (n.map V.int))/\C n/\Q (.int (f n)) H
def Xs (r:Vals (ns.map V.int) o9){v:Value}(h:o9[i]? =some v):∃t,v=.int (ns.getD i 0) t:=by
 have a:i<o9.length:=(cm.mp h).1;have H:i<ns.length:=by have:=r.length;rw[ag]at this;lia
 obtain⟨u,b,c⟩:=r.get (i:=i) (x:=V.int ns[i]) (by simp[H])
 rw[h]at b;cases b;obtain⟨t,rfl⟩:=c;exact⟨t,by rw[aa,ae H];rfl⟩
def Dq (f:X.calm=true):yw X (.builtin "sum") (X7 X.K (λ_=>True) λns=>kQ ns 0):=by
 intro P s y H A U Q I r h;obtain⟨a,ns,rfl,z,_,q⟩:=h;obtain⟨u,rfl,d⟩:=vals1 r;cases d;refine call_sum_walkG (G7 I f z λb g x l S C c j W n p B=>?_);refine⟨g,x,l,_,_,S,λi=>ns.getD i 0,rfl,W,n,p,λi v h=>Xs c h,λo t T k=>?_⟩;have e:b.length=ns.length:=by have:=c.length;rw[ag]at this;lia
 rw[e,Di];exact⟨.int _,H,B o t k,⟨_,rfl⟩,q⟩
def DI (o:X.calm=true):yw X (.builtin "max") (X7 X.K (λns=>ns≠[]) λns=>yk ns.tail (ns.getD 0 0)):=by
 intro P s σ H xs us Q I r h;obtain⟨a,ns,rfl,z,f,q⟩:=h;obtain⟨u,rfl,l⟩:=vals1 r;cases l;have L:0<ns.length:=List.length_pos_iff.mpr f;refine call_max_walk (G7 I o z λd y fp N S s2 c J W Y p M=>?_);have e:d.length=ns.length:=by have:=c.length;rw[ag]at this;lia
 refine⟨y,fp,N,_,_,S,λi j=>decide (ns.getD i 0 > ns.getD j 0),rfl,W,Y,p,by lia,?_,λv h' T n k=>?_⟩
 ·intro i j D C Z Q' E h1 h2 x
  obtain⟨U,rfl⟩:=Xs c h1;obtain⟨g,rfl⟩:=Xs c h2;exact(PyProof.Rows.gt_int x:wpAny (model X.prog X.w) X.A.in1 (compareOp .Gt (.int (ns.getD i 0) U) (.int (ns.getD j 0) g)) Q' E Z)
 ·obtain⟨t,rfl⟩:=Xs c n
  rw[e];have b:=Dk ns (ns.length-1) (by lia)
  rw[show ns.length-1+1=ns.length by lia,drop_length]at b
  have B:ns.getD (argBest (λi j=>decide (ns.getD i 0 > ns.getD j 0)) (ns.length-1)) 0=yk ns.tail (ns.getD 0 0):=b;rw[B];exact⟨.int _,H,M h' T k,⟨_,rfl⟩,q⟩
def gh:List W->Hx->R W:=λa A=>match intsOf a with|some (i::is)=>.ok (.int (yk is i)) A|_=>.bad
def gU:List W->Hx->R W:=λa A=>match intsOf a with|some i=>.ok (.int (kQ i 0)) A|none=>.bad
def fR:∀ws A,qW (gh ws A):=λws A=>by
 unfold gh;split
 ·exact j5
 ·exact jc
def fS:∀ws A,qW (gU ws A):=λws A=>by
 unfold gU;split
 ·exact j5
 ·exact jc
def OC {b:List W}{a:Addr}(z:qX K H a ys∨qz K H a ys)(r:zC K φ H b ys)(e:intsOf b=some ns):qX K H a (ns.map V.int)∨qz K H a (ns.map V.int):=by rw[GQ e]at r;rw[<- zC.ints.mp r];exact z
def AZ:Jj K (X7 K (λns=>ns≠[]) λns=>yk ns.tail (ns.getD 0 0)) gh:=λb A H a y c Q S z r p=>by
 unfold gh at p;cases e:intsOf c with
 |none=>rw[e]at p;exact p.elim|some ns=>cases ns with|nil=>rw[e]at p;exact p.elim|cons i I=>rw[e]at p;exact⟨a,i::I,rfl,OC z r e,(by intro z;cases z),p b H _ .refl S rfl⟩
def Ay:Jj K (X7 K (λ_=>True) λns=>kQ ns 0) gU:=λb A H a y c Q S z r p=>by
 unfold gU at p;cases e:intsOf c with|none=>rw[e]at p;exact p.elim|some ns=>rw[e]at p;exact⟨a,ns,rfl,OC z r e,trivial,p b H _ .refl S rfl⟩
def Jh (y:W):List W->Nat->Nat
 |[],n=>n|w::ws,n=>Jh y ws (if J0 w y then n+1 else n)
theorem Xi (y:W):∀(a:List W)(n:Nat),Jh y a n=n+a.countP λw=>J0 w y
 |[],n=>by simp[Jh]|w::a,n=>by
  show Jh y a _=_;rw[Xi y a,bF]
  by_cases h:J0 w y=true
  ·rw[ai h,ai h];lia
  ·rw[aj h,aj h];lia
def XN:W->W->Hx->R W:=λx y A=>match x with|.tup a=>if yx y&&a.all yx then .ok (.int (Jh y a 0)) A else .bad|_=>.bad
def fT (K:Frag):V->List V->Hp->VK->Prop:=λx v H Q=>∃a X y,x=.ref a/\v=[y]/\qz K H a X/\wq y=true/\X.all wq=true/\Q (.int (X.countP λz=>g9 z y)) H
theorem UE {y:V}:∀{x:List V}{u:bQ},Vals x u->x.all wq=true->u.countP (Zp y)=x.countP λz=>g9 z y
 |_,_,.nil,_=>rfl|_,_,.cons r t,h=>by rw[bL,ak]at h;rw[bF,bF,UE t h.2,So r h.1]
def B8:Kr X "tuple.count" (fT X.K):=by
 intro p s A H x E v U Q I b d h;obtain⟨a,B,y,rfl,rfl,t,j,f,q⟩:=h;cases b;obtain⟨u,rfl,e⟩:=d.one;obtain⟨i,r,P,_⟩:=I.tuple t;obtain⟨⟨C,D,data,S⟩,o,c,n,l⟩:=id P;simp only at c l;subst c l;refine call_meets F.slot_tuple_count ⟨_,o,rfl⟩ F.entry_tuple_count (F.args_tuple_count_2 _ _) (SeqAt.tuple_countAt a i.toArray n D S u (Zp y)) ⟨o,λz g=>K0 e j r f z (by simpa using g),?_⟩
 refine⟨.int _,H,I.tok _,⟨_,rfl⟩,?_⟩;rw[<- UE r f]at q;simpa using q
def TU (g:W->W->Hx->R W)(a b:Ev):Ev:=λc A=>(a c A).bind λx f=>match x with|.tup d=>(b c f).bind λy e=>g (.tup d) y e|_=>.bad
def fU (K:Frag)(r:V->List V->Hp->VK->Prop)(to:TE)(t:TA):TE:=λa H Q=>to a H λx b=>∃p y,x=.ref p/\qz K b p y/\t a b λX h=>r x X h Q
def fV {o:Expr}{to:TE}{t:TA}{N:Str}{id:String}{r:V->List V->Hp->VK->Prop}(S:Slot "tuple" N id)(y:typeOf (.builtin id)=pure (.type "method_descriptor"))(hm:Kr X id r)(B:PE X o to)(C:PA X (e::es) t)
  (c:attributeBase o N X.env (eval o X.env)=eval o X.env)
  (d:((backTo o8 (starEach (e::es) X.env)).all (λx=>!x.1)&&(backToKw o8 (keywordEach [] X.env)).all (λx=>x.1.isSome)
   && decide ((e::es).length+([]:b8).length+(if ([]:b8).isEmpty then 0 else 1)<30))=true)
  (b:(oR.endLine==o8.line)=true)(u:ja e es X)(n:we o8 es X):
  PE X (.Call (.Attribute o N oR) (e::es) [] o8) (fU X.K r to t):=by
 intro P s M H Q I h;refine wpAny_Call_method_late c d b rfl (zR (B P s M H _ I h) λv Z ⟨x,H1,i,g,p,ys,E,ty,j⟩=>?_);subst E;cases g;obtain⟨l,_,pp,_⟩:=i.tuple ty;refine⟨"tuple",id,PySem.F.plainAttrs_tuple,S,y,pp.typeIs,λa D=>by cases D;exact i.tupleN ty,?_⟩
 have A:=C o8 P Z M H1 _ i j;rw[u]at A ⊢;refine Calls.callWith_builtin (by show(false || (backTo o8 (starEach es X.env)).any (·.1))=false;rw[n];rfl) (Calls.evalArgs_plain ?_)
 exact zR A λU Y ⟨T,L,J,f,q⟩=>hm P Y M L (.ref p) T (.ref p) U Q J rfl f q
theorem UC {x:W}(q:RV K φ H x v)(e:yx x=true):∀{X:List W}{a:List V},zC K φ H X a->X.all yx=true->a.all wq=true/\(a.countP λz=>g9 z v)=X.countP λz=>J0 z x
 |[],_,r,_=>by cases r;exact⟨rfl,rfl⟩|w::ws,_,⟨y,r,e1,h,t⟩,h2=>by
  subst e1;rw[bL,ak]at h2;obtain⟨I,i⟩:=UC q e t h2.2;refine⟨by rw[bL,KZ h h2.1,I];rfl,?_⟩
  rw[bF,bF,i,OH h q h2.1 e]
noncomputable def fW (l d:Int)(n:Nat):It:=⟨λi _=>i<n,λi H x h=>h=H/\x=.int (l+i * d),λi _=>n<=i⟩
def zf7 (t:TA):TI:=λa H R=>t a H λv h=>∃i j:Int,v=[.int i,.int j,.int (-1)]/\(-(2 ^ 62)<=i/\i<2 ^ 62/\-(2 ^ 62)<=j/\j<2 ^ 62)/\R (fW i (-1) (i-j).toNat) h
noncomputable def zf8 (h:Int)(n:Nat):jt:=⟨λ_ i=>if i<n then some (some (.int (h-i))) else some none,n⟩
def fX (t:TA):TE:=λa H Q=>t a H λv h=>∃j:Int,v=[.int j]/\∀p,h p=none->Q (.ref p) (upd h p (.rng 0 j))
def fY {T:TA}(g:Gl X "range")(l:X.mg "range"=none)(e:PA X [a] T)(d:starEach [a] X.env=[(false,eval a X.env)]):PE X (.Call (.Name "range" p) [a] [] o6) (fX T):=by intro P s f H Q I h;refine Call_ (Q7 I g l boot_range (PyProof.Rows.callWith_type1 (zR (e o6 P s f H _ I h) λU S ⟨v,n,i,r,c⟩=>?_) d rfl));obtain⟨j,rfl,q⟩:=c;obtain⟨u,rfl,⟨t,rfl⟩⟩:=r.one;refine call_range_1 ⟨.ref _,_,i.laid (o:=.rng 0 j) (λb o E=>af _ E) (aq _) ?_,rfl,q _ (i.hok.fresh (aq _))⟩;exact⟨_,_,_,aC _ rfl⟩
noncomputable def JT (n:Nat):List V:=(List.range n).map λ(i:Nat)=>V.int i
def EW (D:X.calm=true):yw X (.type "list") (λxs H Q=>∃(r:Addr) (j:Int),xs=[.ref r]/\H r=some (.rng 0 j)/\(-(2 ^ 62)<=j/\j<2 ^ 62)/\j.toNat<=sizeLine/\∀l,H l=none->Q (.ref l) (upd H l (.lst (JT j.toNat)))):=by
 intro P s σ H xs us Q I r h;obtain⟨p,j,rfl,B,⟨K,J⟩,A,q⟩:=h;obtain⟨u,rfl,x⟩:=vals1 r;cases x;obtain⟨U,g,N,C⟩:=I.hok p _ B;have L:sizeLine=16777216:=sizeLine_eq;refine PySem.call_list_range (n:=j.toNat) (I.ok.hd D) (show IsRange s.heap p 0 j 1 U g N from C) (small_one (by lia) (by lia) K J) (by rw[rangeSize_one];split<;>lia) (by lia) λh' T M E Y S ⟨Z,d⟩=>?_
 refine⟨.ref s.heap.objs.size,_,I.laid (t':=T) (o:=.lst (JT j.toNat)) Y (aq _) ?_,rfl,q _ (I.hok.fresh (aq _))⟩;refine⟨by unfold JT;simpa using A,M.toList,E,?_,by simpa using S⟩
 have a:∀(l:bQ)(k:Nat),(∀(i:Nat) v,l[i]? =some v->∃t,v=.int ((k+i:Nat):Int) t)->Vals ((List.range' k l.length).map λ(i:Nat)=>V.int i) l:=by
  intro l
  induction l with
  |nil=>intro k _;exact .nil|cons v l y=>
   intro k e;rw[a6,range'_succ,aR];refine .cons ?_ (y (k+1) λi f a=>?_)
   ·obtain⟨t,rfl⟩:=e 0 v rfl
    exact⟨t,rfl⟩
   ·obtain⟨t,rfl⟩:=e (i+1) f (by simpa using a)
    exact⟨t,by congr 1;lia⟩
 have b:M.toList.length=j.toNat:=by simpa using Z
 have:=a M.toList 0 λi v c=>by
  obtain⟨t,rfl⟩:=d i v (by simpa using c)
  exact⟨t,by congr 1;lia⟩
 rw[b]at this;unfold JT;rw[range_eq_range'];exact this
def Tp (m:Ev):Ev:=λb A=>(m b A).bind λw a=>match w with|.int j=>if jG j&&decide (j.toNat<=zX) then .ok (.ref a.length) (a++[.lst ((List.range j.toNat).map λ(i:Nat)=>W.int i)]) else .bad|_=>.bad
def fZ:V->V->Hp->VK->Prop:=λo i H Q=>∃p x k v,o=.ref p/\i=.int k/\0<=k/\H p=some (.lst x)/\x[k.toNat]? =some v/\Q v H
def BG:LQ X fZ:=by intro y s B H o i g j Q I ro d h;obtain⟨p,C,k,v,rfl,rfl,A,f,e,q⟩:=h;cases ro;obtain⟨t,rfl⟩:=d;obtain⟨a,r,P,l⟩:=I.list (qX.of f);obtain⟨u,b,c⟩:=r.get e;have D:=Y0;have n:=r.length;have x:k.toNat<a.length:=(cm.mp b).1;exact wpAny_getItem_list P.isList A (by lia) (by simpa using b) ⟨v,H,I,c,q⟩
def X1 (M e f:Ev):Ex:=λc A=>(M c A).bind λo g=>(e c g).bind λi d=>match o,i with
 |.ref n,.int k=>if 0<=k then(match (d[n]?:Option O) with
  |some (.lst ws)=>match ws[k.toNat]? with
   |some (.int x)=>(f c d).bind λy b=>match y with|.int y=>(wQ (.ref n) (.int k) (.int (x+y)) b).bind λ_ a=>.ok (.nx c) a|_=>.bad
   |_=>.bad
  |_=>.bad) else .bad
 |_,_=>.bad
noncomputable def XU (i j k:Nat):Tg:=λw a=>match w with|.tup [x,.tup [y,z]]=>some (((a.set i (some x)).set j (some y)).set k (some z))|_=>none
end
def jF (k:Bool)(h:Heap)(I a:Addr)(i:Nat):Prop:=if k=true then h.IsListIter I a i else h.IsTupleIter I a i
def yd (k:Bool)(h:Heap)(a:Addr)(i:Array Value):Prop:=if k=true then h.IsList a i else h.IsTuple a i
def wd (k:Bool)(K:Frag)(H:Hp)(a:Addr)(x:List V):Prop:=if k=true then qX K H a x else qz K H a x
noncomputable def JP (k:Bool):String:=if k then "list_iterator" else "tuple_iterator"
def jF.ob {k:Bool}{I:Addr}(x:jF k h I a i):∃o,h.get? I=some o/\o.cls=.type (JP k)/\o.data=.fields #[.ref a,.int i 0]:=by cases k<;>exact x
def jF.mk {k:Bool}{I:Addr}(x:∃o,h.get? I=some o/\o.cls=.type (JP k)/\o.data=.fields #[.ref a,.int i 0]):jF k h I a i:=by cases k<;>exact x
def jF.to {k:Bool}{I:Addr}(x:jF k h I a i)(e:∀o,h.get? I=some o->h'.get? I=some o):jF k h' I a i:=let ⟨o,H,r⟩:=x.ob;.mk ⟨o,e o H,r⟩
def yd.ob {k:Bool}(x:yd k h a items):∃o,h.get? a=some o/\o.cls=.type (if k then "list" else "tuple")/\∃n,o.data=.seq items n:=by cases k<;>exact x
def yd.to {k:Bool}(x:yd k h a items)(e:∀o,h.get? a=some o->h'.get? a=some o):yd k h' a items:=by
 cases k with|false=>exact let ⟨o,H,r⟩:=x.ob;⟨o,e o H,r⟩|true=>exact let ⟨o,H,r⟩:=x.ob;⟨o,e o H,r⟩
section
variable {prog:Program}{w:World}{A:Around}{s:Shared}{k:Bool}{it:Addr}
def N9 (h:yd k s.heap a items)(H:Q (.ref s.heap.objs.size) { s with heap:=s.heap.push { cls:=.type (JP k),data:=.fields #[.ref a,.int 0 0] } }):wpAny (model prog w) A (pyIter (.ref a)) Q E s:=by
 cases k with|true=>exact wpAny_pyIter_list h H|false=>exact wpAny_pyIter_tuple h H
def Xm {x:Value}(t:jF k s.heap it a i)(l:yd k s.heap a items)(f:items[i]? =some x)
  (g:∀h',jF k h' it a (i+1)->Heap.SameBut it s.heap h'->Q x { s with heap:=h' }):wpAny (model prog w) A (Builtin.SmallTypes.nextOf (.ref it)) Q E s:=by
 cases k with
 |true=>exact wpAny_nextOf_list_item t l f g|false=>
  have h:s.heap.IsTupleIter it a i:=t;obtain⟨o,b,e,H⟩:=id h;obtain⟨j,c,_,n,d⟩:s.heap.IsTuple a items:=l;unfold Builtin.SmallTypes.nextOf;refine cf (wpAny_callSpecial?_slot (name:=Str.ofString "__next__") h.typeIs F.slot_tuple_iterator_next (wpAny_call_entry F.slot_tuple_iterator_next h.typeIs F.entry_tuple_iterator_next ?_ (F.args_tuple_iterator_next_1 _)));show wpAny _ _ (field (.ref it) 0 >>= _) _ _ s;refine cf (wpAny_field b H (x:=.ref a) rfl ?_);show wpAny _ _ (if (Value.ref a==Value.none)=true then _ else _) _ _ s;rw[aj (show ¬((Value.ref a==Value.none)=true) from aH)]
  show wpAny _ _ (field (.ref it) 1 >>= _) _ _ s;refine cf (wpAny_field b H (x:=.int i 0) rfl ?_);show wpAny _ _ (seqItems? (.ref a) >>= _) _ _ s;refine cf (wpAny_seqItems c d ?_);simp only[aA,f];refine cf (wpAny_setField b H (by simp) (cg ⟨x,rfl,cg (g _ (.mk ?_) (Heap.SameBut.update ..))⟩))
  exact⟨_,Heap.get?_update_self _ b (Obj.isFreed_of_fields (Obj.data_mapFields H _)),(Obj.cls_mapFields ..).trans e,by rw[Obj.data_mapFields H];simp[rawInt]⟩
def TM (d:A.handled=none)(t:jF k s.heap it a i)(l:yd k s.heap a items)(g:items[i]? =none)
  (j:∀h' e,Heap.ExtBut it s.heap h'->(∃o,h'.get? e=some o/\o.cls=.type "StopIteration")->E (.ref e) { s with heap:=h' }):wpAny (model prog w) A (Builtin.SmallTypes.nextOf (.ref it)) Q E s:=by
 cases k with
 |true=>exact wpAny_nextOf_list_end d t l g j|false=>
  have h:s.heap.IsTupleIter it a i:=t;obtain⟨p,H,n,b⟩:=id h;obtain⟨q,c,_,N,f⟩:s.heap.IsTuple a items:=l;unfold Builtin.SmallTypes.nextOf;refine cf (wpAny_callSpecial?_slot (name:=Str.ofString "__next__") h.typeIs F.slot_tuple_iterator_next (wpAny_call_entry F.slot_tuple_iterator_next h.typeIs F.entry_tuple_iterator_next ?_ (F.args_tuple_iterator_next_1 _)));show wpAny _ _ (field (.ref it) 0 >>= _) _ _ s;refine cf (wpAny_field H b (x:=.ref a) rfl ?_);show wpAny _ _ (if (Value.ref a==Value.none)=true then _ else _) _ _ s;rw[aj (show ¬((Value.ref a==Value.none)=true) from aH)]
  show wpAny _ _ (field (.ref it) 1 >>= _) _ _ s;refine cf (wpAny_field H b (x:=.int i 0) rfl ?_);show wpAny _ _ (seqItems? (.ref a) >>= _) _ _ s;refine cf (wpAny_seqItems c f ?_);simp only[aA,g];refine cf (wpAny_rule (cf (wpAny_setField H b (by simp) ?_)))
  show wpAny _ _ (newExc (.type "StopIteration") [] >>= _) _ _ _;refine cf ?_;simp only[newExc,newTuple];refine cf (wpAny_newObj_type ?_ (by size_fits))
  refine cf (m:=firstArgMember _ _) (wpAny_of_eq (a:=Value.none) (by first|rfl|(simp only[firstArgMember];rfl)) ?_);refine wpAny_newObj_type ?_ (by size_fits)
  simp only[raiseNew];refine cf (wpAny_handled ?_)
  first|rw[show A.in1.handled=none from d]|rw[d]
  refine cf (cg (wpAny_throw ?_));exact j _ _ (((Heap.SameBut.update ..).extBut.push _).push _) ⟨_,aC _ rfl,rfl⟩
def Nh (j:A.handled=none)(c:a≠it):Draws prog w A it [it,a] items.size (λi v=>items[i]? =some v) (λi h=>jF k h it a i/\yd k h a items) where
 live:=λ_ _ S=>let ⟨o,g,_⟩:=S.1.ob;⟨o,g⟩
 frame:=λ_ _ _ S d=>⟨S.1.to λo e=>d it (by simp) o e,S.2.to λo e=>d a (by simp) o e⟩
 item:=λi s Q E f S l=>Xm S.1 S.2 (x:=items[i]) (by simp[f]) λp b H=>l _ p s.toks (by simp[f]) ⟨b,S.2.to λo e=>H.extBut a o c e⟩ H
 done:=λs Q E S n=>TM j S.1 S.2 (by simp) n
end
section
variable {s:Shared}
def _root_.L2.Inv.spun {T:Addr}(I:Inv X o5 σ H s)(k:∀b u,b∉fp->s.heap.get? b=some u->h'.get? b=some u)(j:∀b∈fp,wL X o5 H b)(hT:s.heap.objs.size<=T)
  (new:qV X.prog X.w (upd H T o) h' T o):Inv X o5 σ (upd H T o) { s with heap:=h',toks:=t' }:=by
 have i:H T=none:=I.hok.fresh hT;have lt:∀b u,s.heap.get? b=some u->b≠T:=λb u e=>aO (aK (aM e) hT);have N:∀b u,H b=some u->b∉fp:=λb u e z=>by rw[(j b z).1]at e;cases e
 refine I.step (g':=s.gens) (d':=s.drawn) (ch:=fp) (λb a=>let ⟨_,y,_,g,t,f⟩:=j b a;⟨g,y,t,f⟩) (λb o _ _ h e _=>k b o h e) (λb o _ _ h e _=>⟨o.slots,k b o h e⟩)
  (λb o _ e n=>by rw[qm (lt b o e)];exact n) (λb o h e=>⟨o,k b o h e⟩) (λb x e=>by rw[qm (kY e i)];exact e) (λb u x e=>by rw[qm (kY e i)];exact e)
  (λb ps e=>⟨#[],by rw[qm (kY e i),e];simp⟩) (λm l=>?_) (λb u e=>?_) I.bare
 ·obtain⟨o,E,p,d,r⟩:=l
  exact⟨o,E,p,k _ o (λz=>(j _ z).2.1 rfl) d,r⟩
 ·by_cases a:b=T
  ·subst a;rw[jN]at e;cases e;exact new
  ·rw[qm a]at e
   refine(I.hok b u e).stay (λc v h q=>k c v ?_ q) (λc q=>by rw[qm (kY q i)];exact q) λc x q=>by rw[qm (kY q i)];exact q
   rcases h with z|z
   ·rw[z];exact N b u e
   ·exact N c _ z
def _root_.L2.Inv.spun0 (I:Inv X o5 σ H s)(k:∀b u,b∉fp->s.heap.get? b=some u->h'.get? b=some u)(i:∀b∈fp,wL X o5 H b):Inv X o5 σ H { s with heap:=h',toks:=t' }:=by
 have N:∀b u,H b=some u->b∉fp:=λb u e z=>by rw[(i b z).1]at e;cases e
 refine I.step (g':=s.gens) (d':=s.drawn) (ch:=fp) (λb d=>let ⟨_,t,_,g,l,f⟩:=i b d;⟨g,t,l,f⟩) (λb o _ _ h e _=>k b o h e) (λb o _ _ h e _=>⟨o.slots,k b o h e⟩)
  (λb o _ e n=>n) (λb o h e=>⟨o,k b o h e⟩) (λb x e=>e) (λb u x e=>e) (λb ps e=>⟨#[],by rw[e];simp⟩) (λm j=>?_) (λb u e=>?_) I.bare
 ·obtain⟨o,E,p,a,r⟩:=j
  exact⟨o,E,p,k _ o (λz=>(i _ z).2.1 rfl) a,r⟩
 ·refine(I.hok b u e).stay (λc v h q=>k c v ?_ q) (λc q=>q) λc x q=>q
  rcases h with z|z
  ·rw[z];exact N b u e
  ·exact N c _ z
def _root_.L2.Inv.sq {k:Bool}(I:Inv X o5 σ H s)(h:wd k X.K H a xs):∃i:bQ,Vals xs i/\yd k s.heap a i.toArray/\xs.length<=sizeLine:=by
 cases k with|true=>obtain⟨i,r,p,z⟩:=I.list h;exact⟨i,r,p.isList,z⟩|false=>obtain⟨i,r,p,z⟩:=I.tuple h;exact⟨i,r,(show s.heap.IsTuple a i.toArray from p),z⟩
def _root_.L2.Inv.sq_inj {k:Bool}(I:Inv X o5 σ H s)(h:wd k X.K H a xs)(b:wd k X.K H a ys):xs=ys:=by
 cases k with|true=>exact I.list_inj h b|false=>exact I.tuple_inj h b
end
def RR (k:Bool)(K:Frag)(a:Addr):It:=
 ⟨λi H=>∃X x,wd k K H a X/\X[i]? =some x,λi H x h=>∃p y,(∀X,wd k K H a X->X[i]? =some y)/\H p=none/\x=.ref p/\h=upd H p (.tup [.int i,y]),λi H=>∃X,wd k K H a X/\X.length=i⟩
def Cg {w:World}{K:Frag}(k:Bool)(a n it:Addr):Turn P w K (.Tuple oY kk oQ) (RR k K a) [n,it] n (λi h=>(∃old,IsEnum h n it i old)/\jF k h it a i/\n≠it) where
 mem:=by simp
 obj:=λi h st b f=>by
  obtain⟨⟨old,he⟩,g,_⟩:=st;rcases cn.mp f with rfl|f
  ·exact⟨_,he,λv z=>nomatch z⟩
  ·rw[cx.mp f]
   obtain⟨o,S,_,hd⟩:=g.ob;exact⟨o,S,λv z=>by rw[hd]at z;cases z⟩
 keep:=λi h h' ⟨⟨old,he⟩,g,ne⟩ kp=>⟨⟨old,kp n (by simp) _ he⟩,g.to λo r=>kp it (by simp) o r,ne⟩
 item:=by
  intro X hP hw hK hc i o5 s σ H E I hf st Y;subst hP hw hK;obtain⟨⟨old,he⟩,g,ne⟩:=st;obtain⟨xs,x,D,C⟩:=Y;obtain⟨d,J,t,hz⟩:=I.sq D;obtain⟨u,hu,ru⟩:=J.get C;have U:i<d.toArray.size:=by simpa using (cm.mp hu).1
  obtain⟨oa,j,hca,na,e⟩:=t.ob;have A:a≠it:=λz=>by obtain⟨oi,c,hci,p⟩:=g.ob;rw[<- z,j]at c;cases c;rw[p]at e;cases e
  have ane:n≠a:=λz=>by have B:s.heap.get? a=_:=z ▸ he;rw[j]at B;cases B;cases e
  refine wpAny_pyNext_enum_itemD (Nh (k:=k) (items:=d.toArray) (I.ok.hd hc) A) he ⟨g,t⟩ U ne (by simp[ne,ane]) λy h1 T M S Q hT hsz hk=>?_
  have ey:y=u:=by
   have:d[i]? =some y:=by simpa using M
   rw[hu]at this;exact(aE this).symm
  subst ey;refine⟨_,rfl,wpAny_letOwnedTupleGo_enum S λh2 Z l=>?_⟩;have L:n<s.heap.objs.size:=aM he;have hT2:h2.get? s.heap.objs.size=some { cls:=.type "tuple",data:=.seq #[.int i T,y] }:=l.extBut _ _ (ne_of_gt L) hT;refine⟨.ref s.heap.objs.size,upd H s.heap.objs.size (.tup [.int i,x]),?_,rfl,⟨s.heap.objs.size,x,λys M=>by rw[I.sq_inj M D];exact C,I.hok.fresh (aq _),rfl,rfl⟩,⟨⟨_,by simpa using Z⟩,?_,ne⟩,λb f=>?_⟩
  ·refine I.spun (fp:=[n,it]) (t':=T+1) (λb o f r=>?_) hf (aq _) ?_
   ·exact l.extBut _ _ (λz=>f (by simp[z])) (hk b o (λz=>f (by simp[z])) (λz=>f (by simp[z])) r)
   ·exact⟨by show 2<=sizeLine;decide,[.int i T,y],.cons ⟨T,rfl⟩ (.cons ru .nil),_,hT2,⟨rfl,rfl⟩,0,rfl⟩
  ·exact Q.1.to λo r=>l.extBut _ _ (λz=>ne z.symm) r
  ·have bn:b≠s.heap.objs.size:=λz=>by
    rcases cn.mp f with q|q
    ·exact absurd L (by rw[<- q,z];exact aT _)
    ·obtain⟨oi,c,_⟩:=g.ob
     exact absurd (aM c) (by rw[<- cx.mp q,z];exact aT _)
   show upd H s.heap.objs.size _ b=none;rw[qm bn];exact(hf b f).1
 done:=by
  intro X hP hw hK hc i o5 s σ H E I hf st Y;subst hP hw hK;obtain⟨⟨old,he⟩,g,ne⟩:=st;obtain⟨xs,D,C⟩:=Y;obtain⟨d,J,t,hz⟩:=I.sq D;have en':d.toArray.size=i:=by rw[aB,<- J.length];exact C
  obtain⟨oa,j,hca,na,e⟩:=t.ob;have A:a≠it:=λz=>by obtain⟨oi,c,hci,p⟩:=g.ob;rw[<- z,j]at c;cases c;rw[p]at e;cases e
  refine wpAny_pyNext_enum_endD (Nh (k:=k) (items:=d.toArray) (I.ok.hd hc) A) he ⟨by rw[en'];exact g,t⟩ λh1 N=>⟨rfl,?_⟩
  exact I.spun0 (fp:=[n,it]) (t':=s.toks) (λb o f r=>N b o (λz=>f (by simp[z])) r) hf
 self:=λ_ _ _ _ _ ⟨⟨_,he⟩,_⟩ h=>wpAny_pyIter_enum he h
open AutoSeq1 (wpAny_loadPart')
abbrev Vf (h:Heap)(k:Bool)(a:Addr):Heap:=h.push { cls:=.type (JP k),data:=.fields #[.ref a,.int 0 0] }
abbrev LU (h:Heap)(k:Bool)(a:Addr):Heap:=(Vf h k a).push { cls:=.type "enumerate",data:=.fields #[.none,.bool false,.ref h.objs.size,rawInt 0,.none,.none] }
set_option tactic.hygienic true in
def Eg (a:Addr)(i:Array Value)(n:Nat)(D:b9)(S:Array (Option Value)):
  Meets (Builtin.«enumerate.__new__» ⟨[.type "enumerate",.ref a],[]⟩) (λ_ R s=>s.heap.get? a=some { cls:=.type "tuple",dict:=D,data:=.seq i n,slots:=S }/\R (.ok (.ret (.ref (Vf s.heap false a).objs.size))) { s with heap:=LU s.heap false a }):=
 .of_wp λP w A R s h=>by
  obtain⟨p,g,d,t,o⟩:=s;obtain⟨H,h⟩:=h;have b:=sub_enumerate;have hT:Heap.IsTuple (Shared.heap ⟨p,g,d,t,o⟩) a i:=⟨_,H,rfl,n,rfl⟩
  wp_walk using wpAny_loadPart' H
  refine wpAny_stack_any λe=>cg ?_;split
  ·rename_i c _ _ _ _ _
   cases (c==Value.type "enumerate")<;>(wp_walk using wpAny_loadPart' H,wpAny_pyIter_tuple hT;exact⟨_,rfl,h⟩)
  ·wp_walk using wpAny_loadPart' H,wpAny_pyIter_tuple hT
   exact⟨_,rfl,h⟩
section
variable {prog:Program}{w:World}{A:Around}{s:Shared}
def Dx {k:Bool}(l:yd k s.heap a items)
  (h:∀h',IsEnum h' (s.heap.objs.size+1) s.heap.objs.size 0 .none->jF k h' s.heap.objs.size a 0->(∀b o,s.heap.get? b=some o->h'.get? b=some o)->Q (.ref (s.heap.objs.size+1)) { s with heap:=h' }):
  wpAny (model prog w) A (call (.type "enumerate") [.ref a]) Q E s:=by
 cases k with
 |true=>exact call_enumerate_list l λh' i g _ f=>h h' i g f|false=>
  obtain⟨⟨c,q,D,S⟩,e,H,n,p⟩:=(show s.heap.IsTuple a items from l)
  replace H:c=.type "tuple":=H
  replace p:D=.seq items n:=p
  subst H p;refine callType_new F.called_enumerate (by decide) (F.typeCall_enumerate_1 _) (F.newCall_enumerate_1 _) (λobj=>F.args_object_init_2 obj _) F.entry_enumerate_new (Eg a items n q S) ⟨e,?_⟩
  have d:(Vf s.heap false a).objs.size=s.heap.objs.size+1:=bj ..;have j:IsEnum (LU s.heap false a) (Vf s.heap false a).objs.size s.heap.objs.size 0 .none:=aC _ rfl;show _/\_;rw[d]at j ⊢;exact⟨⟨_,j,rfl⟩,h _ j (.mk ⟨_,af _ (aC _ rfl),rfl,rfl⟩) λb o x=>af _ (af _ x)⟩
end
section
variable {a b:Expr}{m:Ev}
def f6 (K:Frag)(t:TA):TI:=λa H R=>t a H λv h=>∃p k x,v=[.ref p]/\wd k K h p x/\R (RR k K p) h
def boot_enumerate:bootBuiltins "enumerate"=some (.type "enumerate"):=by rfl
def boot_zip:bootBuiltins "zip"=some (.type "zip"):=by rfl
def f7 {t:TA}(l:Gl X "enumerate")(B:X.mg "enumerate"=none)(o:PA X [a] t)(g:starEach [a] X.env=[(false,eval a X.env)]):
  PI X (.Tuple oY kk oQ) (.Call (.Name "enumerate" p) [a] [] o6) (f6 X.K t):=by
 intro P s A H R I h;refine Call_ (Q7 I l B boot_enumerate (PyProof.Rows.callWith_type1 (zR (o o6 P s A H _ I h) λU S ⟨J,C,i,d,Q⟩=>?_) g rfl));obtain⟨p,k,D,rfl,j,q⟩:=Q;obtain⟨u,rfl,r⟩:=d.one;cases r;obtain⟨f,x,sq,y⟩:=i.sq j;refine Dx sq λL e v E=>wpAny_pyIter_enum e ?_;refine⟨S.heap.objs.size+1,[S.heap.objs.size+1,S.heap.objs.size],_,_,C,rfl,i.kept (t':=S.toks) E,Cg k p _ _,⟨⟨_,by simpa using e⟩,v,Nat.succ_ne_self _⟩,λb n=>?_,q⟩
 have c:S.heap.objs.size<=b:=by
  rcases cn.mp n with z|z
  ·rw[z];exact Nat.le_succ _
  ·rw[cx.mp z];exact aq _
 exact i.fpOk c (i.hok.fresh c)
noncomputable def atEnd (a:List W)(i:Nat)(f:W->W):Option (Option W):=match a[i]? with|some x=>some (some (f x))|none=>if a.length=i then some none else none
def kR (w:W)(n:Nat):jt:=⟨λA i=>match zW w A with|some a=>atEnd a i λx=>.tup [.int i,x]|none=>none,n⟩
noncomputable def Jf (w:W):Bool:=match w with|.tup _=>false|_=>true
def G8 {K:Frag}{A:Hx}{w:W}{i:List W}(S:zL K φ A H)(q:RV K φ H w v)(e:zW w A=some i):∃p ys,v=.ref p/\wd (Jf w) K H p ys/\zC K φ H i ys:=by
 cases w with
 |tup u=>cases e;obtain⟨a,j,E,t,r⟩:=q;exact⟨a,j,E,t,r⟩|ref n=>
  obtain⟨a,E,f⟩:=q;unfold zW at e;dsimp only at e;cases c:A[n]? with
  |none=>rw[c]at e;cases e|some o=>
   rw[c]at e;obtain⟨d,b,r⟩:=S.ob n o c;rw[f]at b;cases b;cases o with|lst x=>cases e;obtain⟨y,g,h⟩:=r;exact⟨a,y,E,qX.of g,h⟩|ro x=>cases e;obtain⟨y,g,h⟩:=r;exact⟨a,y,E,g.sq,h⟩|dct x=>cases e|td _=>cases e|tr _=>cases e|tab _ _=>cases e
 |non=>cases e|bl _=>cases e|clo _ _ _=>cases e|xc _=>cases e|fn _=>cases e|int _=>cases e|str _=>cases e
def UK {K:Frag}{a:bR}{A:Hx}{h:Hp}{w:W}{b:List W}{p:Addr}(q:RV K φ H w (.ref p))(l:QT K φ H a h)(S:zL K a A h)(E:zW w A=some b):∃y,wd (Jf w) K h p y/\zC K a h b y:=by obtain⟨P,Y,e,d,c⟩:=G8 S (RV.monoW l q) E;cases e;exact⟨Y,d,c⟩
def f9 {K:Frag}{w:W}{p:Addr}(q:RV K φ H w (.ref p)):QQ K φ H (kR w n) (RR (Jf w) K p):=λi a f D L S=>by
 unfold kR;dsimp only;cases es:zW w D with
 |none=>exact⟨λ_ z=>(by cases z),λz=>(by cases z)⟩|some l=>
  dsimp only;obtain⟨g,j,o⟩:=UK q L S es;unfold atEnd;cases E:l[i]? with
  |none=>
   dsimp only
   by_cases h:l.length=i
   ·rw[ai h]
    exact⟨λ_ z=>(by cases z),λ_=>⟨g,j,by rw[<- o.length];exact h⟩⟩
   ·rw[aj h]
    exact⟨λ_ z=>(by cases z),λz=>(by cases z)⟩
  |some x=>
   dsimp only;refine⟨λu z=>?_,λz=>(by cases z)⟩
   cases z;obtain⟨y,e,d⟩:=o.get E;refine⟨⟨g,y,j,e⟩,λX I ⟨t,Y,b,r,B,c⟩=>?_⟩;subst B c
   have:=b g j
   rw[e]at this;cases this;obtain⟨C,a2,A⟩:=Qy S r (.cons (w:=.int i) (v:=.int i) rfl (.one d));exact⟨C,a2,A⟩
def Jd (m:Ev):Ei:=λb A=>(m b A).bind λw a=>match zW w a with|some c=>.ok (kR w c.length) a|none=>.bad
end
section
variable {prog:Program}{w:World}{A:Around}{s:Shared}{z TI TO i1 i2 l1 l2:Addr}{n1 n2:Nat}{c1 c2:Bool}{xs ys:Array Value}{x y a b:Value}
def gg (D:ZipApart z TI TO i1 i2 l1 l2)(h:IsZip s.heap z TI TO .none)(I:IsPair s.heap TI (.ref i1) (.ref i2))(u:IsPair s.heap TO a b)
  (g1:jF c1 s.heap i1 l1 n1)(g2:jF c2 s.heap i2 l2 n2)(s1:yd c1 s.heap l1 xs)(s2:yd c2 s.heap l2 ys)(U:xs[n1]? =some x)(P:ys[n2]? =some y)
  (hQ:∀h',IsZip h' z TI TO (rawInt s.heap.objs.size)->IsPair h' TI (.ref i1) (.ref i2)->IsPair h' TO x y->jF c1 h' i1 l1 (n1+1)->jF c2 h' i2 l2 (n2+1)->IsPair h' s.heap.objs.size x y->
   (∀c o,c≠z->c≠TO->c≠i1->c≠i2->s.heap.get? c=some o->h'.get? c=some o)->Q (.ref s.heap.objs.size) { s with heap:=h' }):
  wpAny (model prog w) A (Builtin.«zip.__next__» ⟨[.ref z],[]⟩) (λfin s'=>∃v,fin=.done (.ret v)/\Q v s') E s:=by
 show wpAny _ _ (field (.ref z) 2 >>= _) _ _ _;refine cf (wpAny_field h rfl (x:=.bool false) rfl ?_);show wpAny _ _ (field (.ref z) 3 >>= _) _ _ _;refine cf (wpAny_field h rfl (x:=.ref TI) rfl (cf (wpAny_seqItems I rfl ?_)));show wpAny _ _ (Builtin.SmallTypes.ownedTupleIsFree (.ref z) >>= _) _ _ _;refine cf ?_;unfold Builtin.SmallTypes.ownedTupleIsFree;refine cf (wpAny_field h rfl (x:=.none) rfl (cg ?_));simp only[if_true];refine cf (wpAny_rule (cf (wpAny_field h rfl (x:=.ref TO) rfl ?_)));refine cf (wpAny_setField_rec h (by simp) λha p sa=>?_);replace p:IsZip ha z TI TO .ellipsis:=p
 refine cf ?_;simp only[List.zipIdx_cons,List.zipIdx_nil,forIn_cons,forIn_nil];refine cf (cf (wpAny_onRaise ?_));show wpAny _ _ (Builtin.SmallTypes.nextOf (.ref i1) >>= _) _ _ _;refine cf (Xm (g1.to λo e=>sa.extBut _ _ D.i1z e) (s1.to λo e=>sa.extBut _ _ D.l1z e) U λY gb j=>cg ?_);have tb:IsPair Y TO a b:=j.extBut _ _ D.TOi1 (sa.extBut _ _ D.TOz u);refine cf (wpAny_seqItems tb rfl (cf (wpAny_updateSeq_pair tb λN T sc=>cf (wpAny_letGo (cg ?_)))));replace T:IsPair N TO x b:=T;refine cf (cf (wpAny_onRaise ?_));show wpAny _ _ (Builtin.SmallTypes.nextOf (.ref i2) >>= _) _ _ _;have up:∀c o,c≠z->c≠i1->c≠TO->s.heap.get? c=some o->N.get? c=some o:=λc o f d g e=>sc.extBut _ _ g (j.extBut _ _ d (sa.extBut _ _ f e));refine cf (Xm (g2.to λo e=>up _ o D.i2z D.i12.symm D.TOi2.symm e) (s2.to λo e=>up _ o D.l2z D.l2i1 D.l2TO e) P λhd gd sd=>cg ?_);have td:IsPair hd TO x b:=sd.extBut _ _ D.TOi2 T;refine cf (wpAny_seqItems td rfl (cf (wpAny_updateSeq_pair td λhe t S=>cf (wpAny_letGo (cg (cg ?_))))));replace t:IsPair he TO x y:=t;refine cf (wpAny_seqItems t rfl (cf (wpAny_newTuple ?_)));have H:he.objs.size=s.heap.objs.size:=by rw[S.1,sd.1,sc.1,j.1,sa.1]
 have C:IsZip he z TI TO .ellipsis:=S.extBut _ _ D.TOz.symm (sd.extBut _ _ D.i2z.symm (sc.extBut _ _ D.TOz.symm (j.extBut _ _ D.i1z.symm p)));have M:∀c o,c≠z->c≠TO->c≠i1->c≠i2->s.heap.get? c=some o->he.get? c=some o:=λc o f d g r e=>S.extBut _ _ d (sd.extBut _ _ r (up c o f g d e));have ge1:jF c1 he i1 l1 (n1+1):=((gb.to λo e=>sc.extBut _ _ D.TOi1.symm e).to λo e=>sd.extBut _ _ D.i12 e).to λo e=>S.extBut _ _ D.TOi1.symm e;have B:jF c2 he i2 l2 (n2+1):=gd.to λo e=>S.extBut _ _ D.TOi2.symm e;have Z:z<he.objs.size:=aM C;show wpAny _ _ (Builtin.SmallTypes.ownedTupleHandOut (.ref z) (.ref he.objs.size) >>= _) _ _ _;refine cf ?_;unfold Builtin.SmallTypes.ownedTupleHandOut;have zf:IsZip (he.push { cls:=.type "tuple",data:=.seq #[x,y] }) z TI TO .ellipsis:=af _ C;refine cf (wpAny_setField_rec zf (by simp) λX n L=>?_);replace n:IsZip X z TI TO (rawInt he.objs.size):=n
 refine wpAny_setField_rec n (by simp) λl i K=>?_;replace i:IsZip l z TI TO (rawInt he.objs.size):=i
 have fin:∀c o,c≠z->he.get? c=some o->l.get? c=some o:=λc o q e=>K.extBut _ _ q (L.extBut _ _ q (af _ e));have J:IsPair l he.objs.size x y:=K.extBut _ _ (ne_of_gt Z) (L.extBut _ _ (ne_of_gt Z) (aC _ rfl));rw[H]at i J;refine cg ⟨_,rfl,?_⟩;show Q (.ref he.objs.size) _;rw[H];exact hQ l i (fin _ _ D.TIz (M _ _ D.TIz D.TITO D.TIi1 D.TIi2 I)) (fin _ _ D.TOz t) (ge1.to λo e=>fin _ o D.i1z e) (B.to λo e=>fin _ o D.i2z e) J λc o f d g r e=>fin c o f (M c o f d g r e)
def gv {Q:Fin->Shared->Prop}(J:A.handled=none)(D:ZipApart z TI TO i1 i2 l1 l2)(i:IsZip s.heap z TI TO .none)(I:IsPair s.heap TI (.ref i1) (.ref i2))(v:IsPair s.heap TO a b)
  (g1:jF c1 s.heap i1 l1 n1)(g2:jF c2 s.heap i2 l2 n2)(s1:yd c1 s.heap l1 xs)(s2:yd c2 s.heap l2 ys)(j:xs[n1]? =none∨ys[n2]? =none)
  (K:∀h' e,(∀c o,c≠z->c≠TO->c≠i1->c≠i2->s.heap.get? c=some o->h'.get? c=some o)->(∃o,h'.get? e=some o/\o.cls=.type "StopIteration")->E (.ref e) { s with heap:=h' }):
  wpAny (model prog w) A (Builtin.«zip.__next__» ⟨[.ref z],[]⟩) Q E s:=by
 show wpAny _ _ (field (.ref z) 2 >>= _) _ _ _;refine cf (wpAny_field i rfl (x:=.bool false) rfl ?_);show wpAny _ _ (field (.ref z) 3 >>= _) _ _ _;refine cf (wpAny_field i rfl (x:=.ref TI) rfl (cf (wpAny_seqItems I rfl ?_)));show wpAny _ _ (Builtin.SmallTypes.ownedTupleIsFree (.ref z) >>= _) _ _ _;refine cf ?_;unfold Builtin.SmallTypes.ownedTupleIsFree;refine cf (wpAny_field i rfl (x:=.none) rfl (cg ?_));simp only[if_true];refine cf (wpAny_rule (cf (wpAny_field i rfl (x:=.ref TO) rfl ?_)));refine cf (wpAny_setField_rec i (by simp) λu Z U=>?_);replace Z:IsZip u z TI TO .ellipsis:=Z
 refine cf ?_;simp only[List.zipIdx_cons,List.zipIdx_nil,forIn_cons,forIn_nil];refine cf (cf (wpAny_onRaise ?_));show wpAny _ _ (Builtin.SmallTypes.nextOf (.ref i1) >>= _) _ _ _;have ga:=g1.to (h':=u) λo e=>U.extBut _ _ D.i1z e;have Y:=s1.to (h':=u) λo e=>U.extBut _ _ D.l1z e;cases p:xs[n1]? with
 |none=>
  refine cf (TM J ga Y p λt e S X=>?_);obtain⟨n,h,H⟩:=X;have B:IsZip t z TI TO .ellipsis:=S _ _ D.i1z.symm Z;have f:e≠z:=λq=>by subst q;rw[B]at h;cases h;simp at H
  exact wpAny_setField_rec B (by simp) λr _ P=>K r e (λc o d _ g _ q=>P.extBut _ _ d (S _ _ g (U.extBut _ _ d q))) ⟨n,P.extBut _ _ f h,H⟩
 |some x=>
  have M:ys[n2]? =none:=by
   rcases j with q|q
   ·rw[p]at q;cases q
   ·exact q
  refine cf (Xm ga Y p λt N S=>cg ?_);have tb:IsPair t TO a b:=S.extBut _ _ D.TOi1 (U.extBut _ _ D.TOz v);refine cf (wpAny_seqItems tb rfl (cf (wpAny_updateSeq_pair tb λr T P=>cf (wpAny_letGo (cg ?_)))));refine cf (cf (wpAny_onRaise ?_));show wpAny _ _ (Builtin.SmallTypes.nextOf (.ref i2) >>= _) _ _ _;have up:∀c o,c≠z->c≠i1->c≠TO->s.heap.get? c=some o->r.get? c=some o:=λc o d l g e=>P.extBut _ _ g (S.extBut _ _ l (U.extBut _ _ d e));refine cf (TM J (g2.to λo e=>up _ o D.i2z D.i12.symm D.TOi2.symm e) (s2.to λo e=>up _ o D.l2z D.l2i1 D.l2TO e) M λhd e sd X=>?_);obtain⟨n,h,H⟩:=X;have y:IsZip hd z TI TO .ellipsis:=sd _ _ D.i2z.symm (P.extBut _ _ D.TOz.symm (S.extBut _ _ D.i1z.symm Z));have f:e≠z:=λq=>by subst q;rw[y]at h;cases h;simp at H
  exact wpAny_setField_rec y (by simp) λhf _ C=>K hf e (λc o d l g L q=>C.extBut _ _ d (sd _ _ L (up c o d g l q))) ⟨n,C.extBut _ _ f h,H⟩
def AM {Q:Option Value->Shared->Prop}(D:ZipApart z TI TO i1 i2 l1 l2)(d:IsZip s.heap z TI TO .none)(H:IsPair s.heap TI (.ref i1) (.ref i2))(h:IsPair s.heap TO a b)
  (v:jF c1 s.heap i1 l1 n1)(u:jF c2 s.heap i2 l2 n2)(t:yd c1 s.heap l1 xs)(S:yd c2 s.heap l2 ys)(p:xs[n1]? =some x)(n:ys[n2]? =some y)
  (r:∀h',IsZip h' z TI TO (rawInt s.heap.objs.size)->IsPair h' TI (.ref i1) (.ref i2)->IsPair h' TO x y->jF c1 h' i1 l1 (n1+1)->jF c2 h' i2 l2 (n2+1)->IsPair h' s.heap.objs.size x y->
   (∀c o,c≠z->c≠TO->c≠i1->c≠i2->s.heap.get? c=some o->h'.get? c=some o)->Q (some (.ref s.heap.objs.size)) { s with heap:=h' }):wpAny (model prog w) A (pyNext (.ref z)) Q E s:=by
 have hT:s.TypeIs (.ref z) "zip":=⟨_,d,rfl⟩;unfold pyNext;exact cf (wpAny_attempt (wpAny_callSpecial?_slot (name:=Str.ofString "__next__") hT F.slot_zip_next (wpAny_call_entry F.slot_zip_next hT F.entry_zip_next
  (gg D d H h v u t S p n λh' l j i g f e q=>cg (r h' l j i g f e q)) (F.args_zip_next_1 _))))
def gV {Q:Option Value->Shared->Prop}(i:A.handled=none)(D:ZipApart z TI TO i1 i2 l1 l2)(d:IsZip s.heap z TI TO .none)(I:IsPair s.heap TI (.ref i1) (.ref i2))(H:IsPair s.heap TO a b)
  (r:jF c1 s.heap i1 l1 n1)(q:jF c2 s.heap i2 l2 n2)(n:yd c1 s.heap l1 xs)(S:yd c2 s.heap l2 ys)(h:xs[n1]? =none∨ys[n2]? =none)
  (l:∀h',(∀c o,c≠z->c≠TO->c≠i1->c≠i2->s.heap.get? c=some o->h'.get? c=some o)->Q none { s with heap:=h' }):wpAny (model prog w) A (pyNext (.ref z)) Q E s:=by
 have hT:s.TypeIs (.ref z) "zip":=⟨_,d,rfl⟩;unfold pyNext;refine cf (wpAny_attempt (wpAny_callSpecial?_slot (name:=Str.ofString "__next__") hT F.slot_zip_next (wpAny_call_entry F.slot_zip_next hT F.entry_zip_next (gv i D d I H r q n S h λh' e g p=>?_) (F.args_zip_next_1 _))));obtain⟨o,f,j⟩:=p;exact cf (wpAny_isInstance (T := "StopIteration") (b:=true) ⟨o,f,j⟩ isSubtype_stop (cg (l _ g)))
end
abbrev Vo (h:Heap)(c1:Bool)(l:Addr):Heap:=h.push { cls:=.type (JP c1),data:=.fields #[.ref l,.int 0 0] }
abbrev Vp (h:Heap)(c1 c:Bool)(L l:Addr):Heap:=(Vo h c1 L).push { cls:=.type (JP c),data:=.fields #[.ref l,.int 0 0] }
abbrev Vj (h:Heap)(c1 c:Bool)(l L:Addr):Heap:=(Vp h c1 c l L).push { cls:=.type "tuple",data:=.seq #[.ref h.objs.size,.ref (Vo h c1 l).objs.size] }
abbrev Vm (h:Heap)(c1 c:Bool)(L l:Addr):Heap:=(Vj h c1 c L l).push { cls:=.type "tuple",data:=.seq #[.none,.none] }
abbrev Kf (h:Heap)(c1 c:Bool)(L l:Addr):Heap:=(Vm h c1 c L l).push { cls:=.type "zip",data:=.fields #[.none,.bool false,.bool false,.ref (Vp h c1 c L l).objs.size,.ref (Vj h c1 c L l).objs.size] }
def Cf (c1 c:Bool)(l L:Addr)(x y:Array Value):
  Meets (Builtin.«zip.__new__» ⟨[.type "zip",.ref l,.ref L],[]⟩) (λ_ R s=>yd c1 s.heap l x/\yd c s.heap L y/\R (.ok (.ret (.ref (Vm s.heap c1 c l L).objs.size))) { s with heap:=Kf s.heap c1 c l L }):=
 .of_wp λP w A R s h=>by
  obtain⟨p,g,d,t,a⟩:=s;obtain⟨Q,q,h⟩:=h;have H:=sub_zip;have b:yd c1 (Shared.heap ⟨p,g,d,t,a⟩) l x:=Q;have K:yd c (Shared.heap ⟨p.push { cls:=.type (JP c1),data:=.fields #[.ref l,.int 0 0] },g,d,t,a⟩) L y:=q.to λo e=>af _ e
  wp_walk using N9 b,N9 K
  exact⟨_,rfl,h⟩
section
variable {prog:Program}{w:World}{A:Around}{s:Shared}{c1 c2:Bool}{l1 l2:Addr}{xs ys:Array Value}
def CO (i:yd c1 s.heap l1 xs)(S:yd c2 s.heap l2 ys)
  (h:∀h' n,n=s.heap.objs.size->IsZip h' (n+4) (n+2) (n+3) .none->IsPair h' (n+2) (.ref n) (.ref (n+1))->IsPair h' (n+3) .none .none->jF c1 h' n l1 0->jF c2 h' (n+1) l2 0->
   (∀c o,s.heap.get? c=some o->h'.get? c=some o)->Q (.ref (n+4)) { s with heap:=h' }):wpAny (model prog w) A (call (.type "zip") [.ref l1,.ref l2]) Q E s:=by
 refine callType_new F.called_zip (by decide) (F.typeCall_zip_2 _ _) (F.newCall_zip_2 _ _) (λobj=>F.args_object_init_3 obj _ _) F.entry_zip_new (Cf c1 c2 l1 l2 xs ys) ⟨i,S,?_⟩
 have b:(Vo s.heap c1 l1).objs.size=s.heap.objs.size+1:=bj ..;have a:(Vp s.heap c1 c2 l1 l2).objs.size=s.heap.objs.size+2:=by rw[bj,b]
 have Z:(Vj s.heap c1 c2 l1 l2).objs.size=s.heap.objs.size+3:=by rw[bj,a]
 have d:(Vm s.heap c1 c2 l1 l2).objs.size=s.heap.objs.size+4:=by rw[bj,Z]
 have f:(Kf s.heap c1 c2 l1 l2).get? (Vm s.heap c1 c2 l1 l2).objs.size=some _:=aC _ rfl;have g:(Kf s.heap c1 c2 l1 l2).get? (Vj s.heap c1 c2 l1 l2).objs.size=some _:=af _ (aC _ rfl);have y:(Kf s.heap c1 c2 l1 l2).get? (Vp s.heap c1 c2 l1 l2).objs.size=some _:=af _ (af _ (aC _ rfl));have Y:(Kf s.heap c1 c2 l1 l2).get? (Vo s.heap c1 l1).objs.size=some _:=af _ (af _ (af _ (aC _ rfl)));have e:(Kf s.heap c1 c2 l1 l2).get? s.heap.objs.size=some _:=af _ (af _ (af _ (af _ (aC _ rfl))));show _/\_;rw[a,Z,d]at f;rw[b,a]at y;rw[Z]at g;rw[b]at Y;rw[d];exact⟨⟨_,f,rfl⟩,h _ _ rfl f y g (.mk ⟨_,e,rfl,rfl⟩) (.mk ⟨_,Y,rfl,rfl⟩) λc o q=>
  af _ (af _ (af _ (af _ (af _ q))))⟩
end
def RC (c1 c:Bool)(K:Frag)(p q:Addr):It:=
 ⟨λi H=>∃X Y x y,wd c1 K H p X/\wd c K H q Y/\X[i]? =some x/\Y[i]? =some y,
  λi H v h=>∃t x y,(∀X,wd c1 K H p X->X[i]? =some x)/\(∀Y,wd c K H q Y->Y[i]? =some y)/\H t=none/\v=.ref t/\h=upd H t (.tup [x,y]),
  λi H=>∃X Y,wd c1 K H p X/\wd c K H q Y/\(X[i]? =none∨Y[i]? =none)⟩
def Bp {w:World}{K:Frag}(c1 c2:Bool)(p q z TI TO t r:Addr)(D:ZipApart z TI TO t r p q):
  Turn P w K (.Tuple oY kk oQ) (RC c1 c2 K p q) [z,TI,TO,t,r] z (λi h=>IsZip h z TI TO .none/\IsPair h TI (.ref t) (.ref r)/\(∃a b,IsPair h TO a b)/\jF c1 h t p i/\jF c2 h r q i) where
 mem:=by simp
 obj:=λi h st b d=>by
  obtain⟨j,g,⟨N,M,f⟩,g1,g2⟩:=st;simp only[mem_cons,bg,or_false]at d;rcases d with rfl|rfl|rfl|rfl|rfl
  ·exact⟨_,j,λv e=>nomatch e⟩
  ·exact⟨_,g,λv e=>nomatch e⟩
  ·exact⟨_,f,λv e=>nomatch e⟩
  ·obtain⟨o,B,_,hd⟩:=g1.ob;exact⟨o,B,λv e=>by rw[hd]at e;cases e⟩
  ·obtain⟨o,B,_,hd⟩:=g2.ob;exact⟨o,B,λv e=>by rw[hd]at e;cases e⟩
 keep:=λi h h' ⟨j,g,⟨N,M,f⟩,g1,g2⟩ k=>⟨k z (by simp) _ j,k TI (by simp) _ g,⟨N,M,k TO (by simp) _ f⟩,g1.to λo e=>k t (by simp) o e,g2.to λo e=>k r (by simp) o e⟩
 item:=by
  intro X hP hw hK hc i o5 s σ H E I hf st hg;subst hP hw hK;obtain⟨j,g,⟨N,M,f⟩,g1,g2⟩:=st;obtain⟨xs,ys,x,y,h1,h2,ex,ey⟩:=hg;obtain⟨n,r1,u,_⟩:=I.sq h1;obtain⟨l,Z,S,_⟩:=I.sq h2;obtain⟨Q,eu1,Y⟩:=r1.get ex;obtain⟨U,eu2,T⟩:=Z.get ey;refine AM D j g f g1 g2 u S (x:=Q) (y:=U) (by simpa using eu1) (by simpa using eu2) λhh z1 z2 z3 z4 z5 z6 kp=>?_
  refine⟨_,rfl,wpAny_letOwnedTupleGo_zip z1 λhk zk J=>?_⟩;have lt:∀{c o},s.heap.get? c=some o->c≠s.heap.objs.size:=λe=>aO (aM e);have T2:IsPair hk s.heap.objs.size Q U:=J.extBut _ _ (lt j).symm z6;have fre:∀b∈[z,TI,TO,t,r],b≠s.heap.objs.size:=λb d=>by
   simp only[mem_cons,bg,or_false]at d;rcases d with rfl|rfl|rfl|rfl|rfl
   ·exact lt j
   ·exact lt g
   ·exact lt f
   ·obtain⟨o,B,_⟩:=g1.ob;exact lt B
   ·obtain⟨o,B,_⟩:=g2.ob;exact lt B
  refine⟨.ref s.heap.objs.size,upd H s.heap.objs.size (.tup [x,y]),?_,rfl,⟨s.heap.objs.size,x,y,λzs A=>by rw[I.sq_inj A h1];exact ex,λzs A=>by rw[I.sq_inj A h2];exact ey,I.hok.fresh (aq _),rfl,rfl⟩,
   ⟨zk,J.extBut _ _ D.TIz z2,⟨_,_,J.extBut _ _ D.TOz z3⟩,z4.to λo e=>J.extBut _ _ D.i1z e,z5.to λo e=>J.extBut _ _ D.i2z e⟩,λb d=>?_⟩
  ·refine I.spun (fp:=[z,TI,TO,t,r]) (t':=s.toks) (λb o d eo=>?_) hf (aq _) ?_
   ·exact J.extBut _ _ (λe=>d (by simp[e])) (kp b o (λe=>d (by simp[e])) (λe=>d (by simp[e])) (λe=>d (by simp[e])) (λe=>d (by simp[e])) eo)
   ·exact⟨by show 2<=sizeLine;decide,[Q,U],.cons Y (.cons T .nil),_,T2,⟨rfl,rfl⟩,0,rfl⟩
  ·show upd H s.heap.objs.size _ b=none
   rw[qm (fre b d)];exact(hf b d).1
 done:=by
  intro X hP hw hK hc i o5 s σ H E I hf st hg;subst hP hw hK;obtain⟨j,g,⟨N,M,f⟩,g1,g2⟩:=st;obtain⟨xs,ys,h1,h2,L⟩:=hg;obtain⟨n,r1,u,_⟩:=I.sq h1;obtain⟨l,Z,S,_⟩:=I.sq h2;have C:n.toArray[i]? =none∨l.toArray[i]? =none:=by
   rcases L with e|e
   ·exact .inl (by simpa using r1.none_of e)
   ·exact .inr (by simpa using Z.none_of e)
  exact gV (I.ok.hd hc) D j g f g1 g2 u S C λhh kp=>⟨rfl,I.spun0 (fp:=[z,TI,TO,t,r]) (t':=s.toks) (λb o d eo=>kp b o (λe=>d (by simp[e])) (λe=>d (by simp[e])) (λe=>d (by simp[e])) (λe=>d (by simp[e])) eo) hf⟩
 self:=λ_ _ _ _ _ st h=>wpAny_pyIter_zip st.1 h
section
variable {a b:Expr}{m:Ev}
def g0 (K:Frag)(t:TA):TI:=λa H R=>t a H λv h=>∃p q c1 c x y,v=[.ref p,.ref q]/\wd c1 K h p x/\wd c K h q y/\R (RC c1 c K p q) h
def hh {T:TA}(hg:Gl X "zip")(hm:X.mg "zip"=none)(ha:PA X [a,b] T)(U:ja a [b] X)(Y:we o6 [b] X):
  PI X (.Tuple oY kk oQ) (.Call (.Name "zip" p) [a,b] [] o6) (g0 X.K T):=by
 intro o5 s σ H R I h;refine Call_ (Q7 I hg hm boot_zip (PyProof.Rows.callWith_type1 (zR (ha o6 o5 s σ H _ I h) λus s1 ⟨vs,H1,g,P,Q⟩=>?_) U Y));obtain⟨p,q,c1,c2,xs,ys,rfl,h1,h2,hR⟩:=Q;obtain⟨u1,u2,rfl,o,r⟩:=P.two;cases o;cases r;obtain⟨x,N,d,_⟩:=g.sq h1;obtain⟨v,M,S,_⟩:=g.sq h2;obtain⟨op,u,_⟩:=d.ob;obtain⟨oq,t,_⟩:=S.ob;have L:p<s1.heap.objs.size:=aM u;have l:q<s1.heap.objs.size:=aM t;refine CO d S λh' n E Z J C B A kp=>wpAny_pyIter_zip Z ?_;rw[<- E]at L l;have ne1:∀(i j:Nat),i≠j->n+i≠n+j:=λi j h e=>h (Nat.add_left_cancel e);have ne2:∀(c:Nat)(i:Nat),c<n->c≠n+i:=λc i h e=>absurd h (by rw[e];exact Nat.not_lt.mpr (le_add_right n i))
 have D:ZipApart (n+4) (n+2) (n+3) (n+0) (n+1) p q:=⟨ne1 2 4 (by decide),ne1 3 4 (by decide),ne1 0 4 (by decide),ne1 1 4 (by decide),ne1 2 3 (by decide),ne1 2 0 (by decide),ne1 2 1 (by decide),ne1 3 0 (by decide),ne1 3 1 (by decide),ne1 0 1 (by decide),
  ne2 p 4 L,ne2 p 3 L,ne2 p 0 L,ne2 p 1 L,ne2 q 4 l,ne2 q 3 l,ne2 q 0 l,ne2 q 1 l⟩
 refine⟨n+4,[n+4,n+2,n+3,n,n+1],_,_,H1,rfl,g.kept (t':=s1.toks) kp,Bp c1 c2 p q _ _ _ _ _ D,⟨Z,J,⟨_,_,C⟩,B,A⟩,λc y=>?_,hR⟩;have f:s1.heap.objs.size<=c:=by
  rw[<- E];simp only[mem_cons,bg,or_false]at y;rcases y with rfl|rfl|rfl|rfl|rfl
  ·exact le_add_right _ _
  ·exact le_add_right _ _
  ·exact le_add_right _ _
  ·exact aq _
  ·exact le_add_right _ _
 exact g.fpOk f (g.hok.fresh f)
noncomputable def zip2:Option W->Option W->Option W
 |some x,some y=>some (.tup [x,y])|_,_=>none
def wN (w a:W)(n:Nat):jt:=⟨λA i=>match zW w A,zW a A with|some u,some v=>some (zip2 u[i]? v[i]?)|_,_=>none,n⟩
def hA {K:Frag}{w a:W}{p P:Addr}(q:RV K φ H w (.ref p))(Q:RV K φ H a (.ref P)):QQ K φ H (wN w a n) (RC (Jf w) (Jf a) K p P):=λi b o Z L S=>by
 unfold wN;dsimp only;cases es:zW w Z with
 |none=>exact⟨λ_ z=>(by cases z),λz=>(by cases z)⟩|some U=>
  cases E:zW a Z with
  |none=>exact⟨λ_ z=>(by cases z),λz=>(by cases z)⟩|some vs=>
   dsimp only;obtain⟨C,I,J⟩:=UK q L S es;obtain⟨D,h,c⟩:=UK Q L S E;have non:∀{U:List W}{C:List V},zC K b o U C->U[i]? =none->C[i]? =none:=λr e=>by rw[List.getElem?_eq_none_iff]at e ⊢;rw[<- r.length];exact e
   cases e1:U[i]? with
   |none=>exact⟨λ_ z=>(by cases z),λ_=>⟨C,D,I,h,.inl (non J e1)⟩⟩|some x=>
    cases e2:vs[i]? with
    |none=>exact⟨λ_ z=>(by cases z),λ_=>⟨C,D,I,h,.inr (non c e2)⟩⟩|some y=>
     refine⟨λu z=>?_,λz=>(by cases z)⟩
     cases z;obtain⟨d,T,f2⟩:=J.get e1;obtain⟨v,f,f4⟩:=c.get e2;refine⟨⟨C,D,d,v,I,h,T,f⟩,λX H1 ⟨t,B,Y,j,g,ht,ex,l⟩=>?_⟩;subst ex l;have N:=j C I;have M:=g D h;rw[T]at N;cases N;rw[f]at M;cases M;obtain⟨a1,a2,A⟩:=Qy S ht (.cons f2 (.one f4));exact⟨a1,a2,A⟩
def Zj (m M:Ev):Ei:=λc A=>(m c A).bind λw d=>(M c d).bind λa b=>match zW w b,zW a b with|some u,some _=>.ok (wN w a u.length) b|_,_=>.bad
variable {K:Frag}{c:Expr}
noncomputable def Vw:Ev:=λ_ A=>.ok (.ref A.length) (A++[.dct []])
noncomputable def Vr:W->Option Key
 |.int i=>some (.inl i)|_=>none
noncomputable def yV (k:Key):List (Key×W)->Option W
 |[]=>none|(j,w)::r=>if j=k then some w else yV k r
theorem UO (k:Key):∀{g:List (Key×W)}{u:List (Key×V)},u.map (·.1)=g.map (·.1)->zC K φ H (g.map (·.2)) (u.map (·.2))->
  (∀w,yV k g=some w->∃v,kO u k=some v/\RV K φ H w v)/\(yV k g=none->kO u k=none)
 |[],[],_,_=>⟨λw h=>(by cases h),λ_=>rfl⟩|[],_::_,h,_=>by simp at h|_::_,[],h,_=>by simp at h|(j,w)::g,(J,v)::u,h,r=>by
  simp only[aR,List.cons.injEq]at h;obtain⟨d,f,e,q,o⟩:=r;simp only[aR,List.cons.injEq]at e;obtain⟨rfl,rfl⟩:=e;have i:=UO k h.2 o;have b:J=j:=h.1;subst b
  by_cases a:J=k
  ·refine⟨λc l=>⟨v,GU a,?_⟩,λn=>?_⟩
   ·unfold yV at l;rw[ai a]at l;cases l;exact q
   ·unfold yV at n;rw[ai a]at n;cases n
  ·unfold yV
   rw[aj a,GW (p:=(J,v)) a];exact i
theorem zL.dct {A:Hx}{kvs:List (Key×W)}(S:zL K φ A H)(q:RV K φ H (.ref n) v)(e:A[n]? =some (.dct kvs)):∃p us,v=.ref p/\φ[n]? =some p/\H p=some (.dK us)/\us.map (·.1)=kvs.map (·.1)/\zC K φ H (kvs.map (·.2)) (us.map (·.2)):=by obtain⟨p,rfl,d⟩:=q;obtain⟨P,c,us,b,a,h⟩:=S.ob n _ e;rw[d]at c;cases c;exact⟨p,us,rfl,d,b,a,h⟩
def SY:W->W->Hx->R W:=λd k A=>match d,Vr k with
 |.ref n,some k=>match A[n]? with
  |some (.dct kvs)=>match yV k kvs with|some w=>.ok w A|none=>.bad
  |_=>.bad
 |_,_=>.bad
def AH:V->List V->Hp->VK->Prop:=λx a H Q=>∃p u k d,x=.ref p/\a=[kV k,d]/\H p=some (.dK u)/\u.length<sizeLine/\(∀v,kO u k=some v->Q v H)/\(kO u k=none->Q d (upd H p (.dK (putK u k d))))
def Dm:Kr X "dict.setdefault" AH:=by
 intro P s S H x T v Y Q I g i h;obtain⟨p,K,k,d,rfl,rfl,f,A,n,l⟩:=h;cases g;obtain⟨U,u,rfl,j,c⟩:=i.two;obtain⟨z,C,J,B,E⟩:=Li I.hok f;refine call_meetsIn PySem.F.slot_dict_setdefault E.typeIs PySem.F.entry_dict_setdefault (PySem.F.args_dict_setdefault_3 _ _ _) (kt_meets_setdefault (kI X.prog X.w) p (Sv j) C u) ⟨J,E,by rw[<- B.length];exact z,λv o=>?_,λL N D t=>?_⟩
 ·have r:=B.val k
  rw[o]at r;cases e:kO K k with|none=>rw[e]at r;exact r.elim|some a=>rw[e]at r;exact⟨a,H,I.tok _,r,n a e⟩
 ·have r:=B.val k
  rw[L]at r;cases e:kO K k with
  |some a=>rw[e]at r;exact r.elim|none=>
   have b:(putK K k d).length<=sizeLine:=by have:=Es K k d;lia
   have M:∃q,N.get? p=some q:=let ⟨q,_,_,y,_⟩:=D;⟨q,y⟩
   exact⟨d,_,eI I (by rw[f];exact True.intro) t M (eJ b C (B.put k c) D),c,l e⟩
noncomputable def VB (x:W)(A:Hx):Bool:=match x with
 |.ref n=>match A[n]? with|some (.dct _)=>true|_=>false
 |_=>false
def Q1:W->W->W->Hx->R W:=λd k v A=>match d,Vr k with
 |.ref n,some k=>match A[n]? with
  |some (.dct kvs)=>if kvs.length<zX then(match yV k kvs with|some w=>.ok w A|none=>.ok v (A.set n (.dct (kvs++[(k,v)])))) else .bad
  |_=>.bad
 |_,_=>.bad
def Wo (g:W->W->W->Hx->R W)(a b c:Ev):Ev:=λe A=>(a e A).bind λx f=>if VB x f then(b e f).bind λy h=>(c e h).bind λz d=>g x y z d else .bad
def B5 {A:Hx}{w:W}(S:zL K φ A H)(q:RV K φ H w v)(e:VB w A=true):VQ K "dict" v H:=by
 unfold VB at e;cases w with
 |ref n=>
  dsimp only at e;cases e1:A[n]? with
  |none=>rw[e1]at e;cases e|some o=>cases o with|dct a=>obtain⟨p,u,rfl,_,h,_⟩:=S.dct q e1;exact .inr (.inr (.inl ⟨rfl,.inl ⟨u,h⟩⟩))|_=>rw[e1]at e;cases e
 |_=>cases e
end
def RO (d:Addr)(o:Obj)(u:List (Key×V)):It:=
 ⟨λi H=>H d=some (.frz o (.dK u))/\i<u.length,λi H x h=>∃t p,u[i]? =some p/\H t=none/\x=.ref t/\h=upd H t (.tup [kV p.1,p.2]),λi H=>H d=some (.frz o (.dK u))/\u[i]? =none⟩
def hH {w:World}{k:Key}(h:(kI P w).is k u=true):RelV (kV k) u:=by
 rw[Df]at h;rcases ZX h with ⟨i,t,rfl,rfl⟩|⟨x,t,rfl,rfl⟩
 ·exact⟨t,rfl⟩
 ·exact⟨t,rfl⟩
theorem KV.at:∀{U:List (Key×V)}{v:List (Key×Value)}{i:Nat}{p:Key×V},KV U v->U[i]? =some p->∃u,v[i]? =some (p.1,u)/\RelV p.2 u
 |[],_,_,_,_,e=>by simp at e|q::U,_,0,p,.cons (b:=b) r t,e=>by simp at e;subst e;exact⟨b.2,by simp only[List.getElem?_cons_zero];rw[r.1],r.2⟩
 |q::U,_,i+1,p,.cons r t,e=>by
  obtain⟨u,H,h⟩:=KV.at (i:=i) (p:=p) t (by simpa using e)
  exact⟨u,by simpa using H,h⟩
section
variable {s:Shared}
def _root_.L2.Inv.frzD {d:Addr}{o:Obj}{u:List (Key×V)}{f:Nat}(I:Inv X o5 σ H s)(h:H d=some (.frz o (.dK u)))(p:∃E,o.data=.dict E f):∃vs,KV u vs/\s.heap.DictAt (kI X.prog X.w) d vs f:=by
 obtain⟨a,z,x,vs,l,D⟩:=I.hok d _ h;obtain⟨g,v,e,n,t,c,r⟩:=D.dictAt;rw[a]at n;cases n;obtain⟨E,q⟩:=p;have b:=c;rw[q]at b;injection b with j i
 subst i;exact⟨vs,l,o,e,a,t,c,r⟩
end
def BB:entryFor table "dict_itemiterator.__iter__"=some Builtin.«dict_keyiterator.__iter__»:=entryFor_alias (id' := "dict_keyiterator.__iter__") (by kernel_rfl)
 (by first|rfl|decide +kernel|(unfold String.splitOn;simp +decide [String.splitOnAux])) (by decide +kernel) (by kernel_rfl)
def Dj {w:World}{K:Frag}(d Z:Addr)(o:Obj)(us:List (Key×V))(l:Nat)(j:∃T,o.data=.dict T l):
  Turn P w K (.Tuple oY kk oQ) (RO d o us) [Z] Z (λi h=>∃ok a,IsItemIter h Z d i us.length l ok a) where
 mem:=by simp
 obj:=λi h ⟨ok,a,U⟩ b c=>by
  rw[cx.mp c];exact⟨_,U,λv e=>nomatch e⟩
 keep:=λi h h' ⟨ok,a,U⟩ k=>⟨ok,a,k Z (by simp) _ U⟩
 item:=by
  intro X r hw t B i o5 s σ H E I hf U n;subst r hw t;obtain⟨ok,a,U⟩:=U;obtain⟨hd,g⟩:=n;obtain⟨vs,Y,D⟩:=I.frzD hd j;obtain⟨u,L,C⟩:=KV.at Y (i:=i) (p:=us[i]) (by simp[g])
  have S:IsItemIter s.heap Z d i vs.length l ok a:=by rw[<- Y.length];exact U
  refine wpAny_pyNext_items_item S D L λkey h1 y N hT M kp=>⟨_,rfl,wpAny_letOwnedTupleGo_items N λh2 q f=>?_⟩;have lt:Z<s.heap.objs.size:=aM U;have T2:h2.get? s.heap.objs.size=some { cls:=.type "tuple",data:=.seq #[key,u] }:=f.extBut _ _ (ne_of_gt lt) hT;refine⟨.ref s.heap.objs.size,upd H s.heap.objs.size (.tup [kV us[i].1,us[i].2]),?_,rfl,⟨s.heap.objs.size,us[i],by simp[g],I.hok.fresh (aq _),rfl,rfl⟩,⟨_,_,by rw[Y.length];exact q⟩,λb c=>?_⟩
  ·refine I.spun (fp:=[Z]) (t':=s.toks) (λb ob c x=>?_) hf (aq _) ?_
   ·exact f.extBut _ _ (λz=>c (by simp[z])) (kp b ob (λz=>c (by simp[z])) x)
   ·exact⟨by show 2<=sizeLine;decide,[key,u],.cons (hH y) (.cons C .nil),_,T2,⟨rfl,rfl⟩,0,rfl⟩
  ·show upd H s.heap.objs.size _ b=none
   have bn:b≠s.heap.objs.size:=λz=>by rw[cx.mp c]at z;exact absurd lt (by rw[z];exact aT _)
   rw[qm bn];exact(hf b c).1
 done:=by
  intro X r hw t B i o5 s σ H E I hf U n;subst r hw t;obtain⟨ok,a,U⟩:=U;obtain⟨hd,g⟩:=n;obtain⟨vs,Y,D⟩:=I.frzD hd j;have S:IsItemIter s.heap Z d i vs.length l ok a:=by rw[<- Y.length];exact U
  have hn:vs[i]? =none:=by rw[List.getElem?_eq_none_iff]at g ⊢;rw[<- Y.length];exact g
  exact wpAny_pyNext_items_end (I.ok.hd B) S D hn λh1 J=>⟨rfl,I.spun0 (fp:=[Z]) (t':=s.toks) (λb ob c x=>J b ob (λz=>c (by simp[z])) x) hf⟩
 self:=λA i s Q E ⟨ok,a,U⟩ h=>by have hT:s.TypeIs (.ref Z) "dict_itemiterator":=⟨_,U,rfl⟩;refine wpAny_pyIter_slot hT F.slot_dict_itemiterator_iter (wpAny_call_entry F.slot_dict_itemiterator_iter hT BB ?_ (F.args_dict_itemiterator_iter_1 _));show wpAny _ _ (ret (.ref Z)) _ _ s;exact cg ⟨_,rfl,"dict_itemiterator",_,hT,F.slot_dict_itemiterator_next.lookup,h⟩
section
variable {a b:Expr}{m:Ev}
def hJ (td:TE):TI:=λa H R=>td a H λx h=>∃d u,x=.ref d/\h d=some (.dK u)/\∀o,R (RO d o u) (upd h d (.frz o (.dK u)))
def CP {td:TE}(y:PE X a td)(i:attributeBase a "items" X.env (eval a X.env)=eval a X.env)(g:(oR.endLine==o8.line)=true):
  PI X (.Tuple oY kk oQ) (.Call (.Attribute a "items" oR) [] [] o8) (hJ td):=by
 intro P s L H R I h;refine wpAny_Call_method0_late i g (zR (y P s L H _ I h) λv S ⟨x,Q,n,u,d,U,T,N,q⟩=>?_);subst T;cases u;obtain⟨z,f,M,C,K⟩:=Li n.hok N;obtain⟨o,l,p,c,J,t,r⟩:=id K;refine⟨"dict","dict.items",PySem.F.plainAttrs_dict,PySem.F.slot_dict_items,PySem.F.type_dict_items,K.typeIs,λb E=>by cases E;exact⟨o,c,J.2.1⟩,Calls.callWith_builtin rfl (PySem.evalArgs_none ?_)⟩
 refine call_meetsIn PySem.F.slot_dict_items K.typeIs PySem.F.entry_dict_items (PySem.F.args_dict_items_1 _) (meets_dict_items (kI X.prog X.w) d f) ⟨⟨M,K⟩,?_⟩;have B:Inv X P L (upd Q d (.frz o (.dK U))) { S with heap:=S.heap,toks:=S.toks }:=n.write (x:=d) (e:=d) (o:=.frz o (.dK U)) (t':=S.toks) (h':=S.heap) (by rw[N];exact True.intro) (.inl rfl) (λ_ _ _ q=>q) ⟨o,c⟩ ⟨c,z,f,M,C,K⟩
 have j:Inv X P L (upd Q d (.frz o (.dK U))) { S with heap:=S.heap.push { cls:=.type "dict_items",data:=.fields #[.ref d] } }:=B.kept (t':=S.toks) λb ob q=>af _ q
 have D:(S.heap.push { cls:=.type "dict_items",data:=.fields #[.ref d] }).DictAt (kI X.prog X.w) d M p:=⟨o,l,af _ c,J,t,r⟩;refine wpAny_pyIter_items (s:={ S with heap:=S.heap.push { cls:=.type "dict_items",data:=.fields #[.ref d] } }) ⟨_,aC _ rfl,rfl,rfl⟩ D ?_
 refine⟨_,[_],_,_,_,rfl,j.kept (t':=S.toks) λb ob q=>af _ q,Dj d _ o U p ⟨l,t⟩,⟨.none,.none,?_⟩,λb A=>?_,q o⟩
 ·rw[C.length];exact aC _ rfl
 ·have E:=cx.mp A
  subst E;exact j.fpOk (aq _) (j.hok.fresh (aq _))
noncomputable def kW:Key->W
 |.inl i=>.int i|.inr x=>.str x
def Km (K:List (Key×W)):jt:=⟨λ_ i=>some (K[i]?.map λp=>.tup [kW p.1,p.2]),K.length⟩
def XI (m:Ev):Ei:=λa A=>match A with
 |[]=>(m a []).bind λw b=>match w,b with|.ref 0,[.dct kvs]=>if qR (kvs.map (·.2)) then .ok (Km kvs) [] else .bad|_,_=>.bad
 |_=>.bad
def hV {K:Frag}{d:Addr}{o:Obj}{U:List (Key×V)}{I:List (Key×W)}(Q:H d=some (.frz o (.dK U)))(c:U.map (·.1)=I.map (·.1))(A:zC K φ H (I.map (·.2)) (U.map (·.2)))(n:qR (I.map (·.2))=true):
  QQ K φ H (Km I) (RO d o U):=λi a f Z L S=>by
 unfold Km;dsimp only;have h:=L.fz d o _ Q;have E:zC K a f (I.map (·.2)) (U.map (·.2)):=A.nrm L.tp L.fz n;have l:U.length=I.length:=by have:=congrArg List.length c;simpa using this
 cases e:I[i]? with
 |none=>
  refine⟨λ_ z=>(by cases z),λ_=>⟨h,?_⟩⟩
  rw[List.getElem?_eq_none_iff]at e ⊢;rw[l];exact e
 |some p=>
  have g:i<I.length:=(cm.mp e).1;refine⟨λu z=>?_,λz=>(by cases z)⟩
  cases z;refine⟨⟨h,by rw[l];exact g⟩,λx Y ⟨t,q,b,P,X,y⟩=>?_⟩
  subst X y;have N:q.1=p.1:=by
   have J:(U.map (·.1))[i]? =some q.1:=by simp[b]
   rw[c]at J;simp[e]at J;exact J.symm
  have a2:(I.map (·.2))[i]? =some p.2:=by simp[e]
  obtain⟨v,M,T⟩:=E.get a2;have j:v=q.2:=by simp[b]at M;exact M.symm
  subst j;rw[N];have r:RV K a f (kW p.1) (kV p.1):=by cases p.1<;>rfl
  obtain⟨D,C,B⟩:=Qy S P (.cons r (.one T));exact⟨D,C,B⟩
end
mutual
noncomputable def W.beq:W->W->Bool
 |.non,.non=>true|.bl a,.bl b=>a==b|.int a,.int b=>decide (a=b)|.str a,.str b=>decide (a=b)|.tup a,.tup b=>WG a b|_,_=>false
noncomputable def WG:List W->List W->Bool
 |[],[]=>true|a::as,b::bs=>a.beq b&&WG as bs|_,_=>false
end
mutual
theorem W.eq_of:∀{a b:W},a.beq b=true->a=b
 |.non,.non,_=>rfl|.bl a,.bl b,h=>by have H:(a==b)=true:=h;rw[aL]at H;rw[H]|.int a,.int b,h=>by have H:decide (a=b)=true:=h;rw[ao]at H;rw[H]|.str a,.str b,h=>by have H:decide (a=b)=true:=h;rw[ao]at H;rw[H]|.tup a,.tup b,h=>by have H:WG a b=true:=h;rw[Mf H]|.non,.bl _,h=>nomatch h|.non,.int _,h=>nomatch h|.non,.str _,h=>nomatch h|.non,.tup _,h=>nomatch h|.non,.ref _,h=>nomatch h
 |.bl _,.non,h=>nomatch h|.bl _,.int _,h=>nomatch h|.bl _,.str _,h=>nomatch h|.bl _,.tup _,h=>nomatch h|.bl _,.ref _,h=>nomatch h
 |.int _,.non,h=>nomatch h|.int _,.bl _,h=>nomatch h|.int _,.str _,h=>nomatch h|.int _,.tup _,h=>nomatch h|.int _,.ref _,h=>nomatch h
 |.str _,.non,h=>nomatch h|.str _,.bl _,h=>nomatch h|.str _,.int _,h=>nomatch h|.str _,.tup _,h=>nomatch h|.str _,.ref _,h=>nomatch h
 |.tup _,.non,h=>nomatch h|.tup _,.bl _,h=>nomatch h|.tup _,.int _,h=>nomatch h|.tup _,.str _,h=>nomatch h|.tup _,.ref _,h=>nomatch h
 |.ref _,.non,h=>nomatch h|.ref _,.bl _,h=>nomatch h|.ref _,.int _,h=>nomatch h|.ref _,.str _,h=>nomatch h|.ref _,.tup _,h=>nomatch h|.ref _,.ref _,h=>nomatch h
theorem Mf:∀{a b:List W},WG a b=true->a=b
 |[],[],_=>rfl|a::as,b::bs,h=>by have H:(a.beq b&&WG as bs)=true:=h;rw[ak]at H;rw[W.eq_of H.1,Mf H.2]
 |[],_::_,h=>nomatch h
 |_::_,[],h=>nomatch h
end
section
variable {K:Frag}
def FD (K:Frag)(x:Str)(S:Stmt):Prop:=∃f d,kS K x x S f d/\nsIn K mainGlobals x=some (some (.ref f))
def zep {S:Stmt}{b:Value}{o A:b9}{kV d p C ct:Value}(a:nsIn K mainGlobals x=some (some (.ref f)))
  (l:K.lookup f=some ⟨b,o,.func (fnOf x x (Zd S) (jO S) (qc S) .none kV d p A C ct),pd⟩)(c:codeIn K C x=true)(k:keepIn K (.ref f)=true):FD K x S:=⟨f,_,eG l c k,a⟩
def CD (K:Frag)(x:Str)(i:Int):Prop:=∃t,nsIn K mainGlobals x=some (some (.int i t))
def zei {i:Int}{t:Tok}(a:nsIn K mainGlobals x=some (some (.int i t))):CD K x i:=⟨t,a⟩
end
open PySem PySem.Spec PyProof.Rows L2 Mi
@[irreducible] def zy (X:Cx)(x:XR)(e:Expr)(m:Ev):Prop:=Mi.SE X x e m
def XH:@zy=@Mi.SE:=by delta zy;rfl
@[irreducible] def gn (X:Cx)(x:XR)(e:bW)(m:Ea):Prop:=Mi.SA X x e m
@[irreducible] def yQ (X:Cx)(x:XR)(e:Expr)(m:Ev):Prop:=Mi.ST X x e m
@[irreducible] def Zq (X:Cx)(x:XR)(e:Expr)(m:Ev):Prop:=Mi.SW X x e m
@[irreducible] def yn (X:Cx)(x:XR)(S:Stmt)(m:Ex):Prop:=Mi.SS X x S m
@[irreducible] def yy (X:Cx)(x:XR)(S:cb)(m:Ex):Prop:=Mi.QN X x S m
@[irreducible] def kX (X:Cx)(x:XR)(t e:Expr)(m:Ei):Prop:=Mi.SI X x t e m
@[irreducible] def wR (X:Cx)(t:Expr)(m:Tg):Prop:=Mi.SG X t m
@[irreducible] def ZR (X:Cx)(x:XR)(e:Expr)(m:jW):Prop:=Mi.SF X x e m
@[irreducible] def gr (X:Cx)(x:XR)(e:Expr)(m:jW):Prop:=Mi.SQ X x e m
@[irreducible] def Zi (X:Cx)(e:bW)(m:Ev):Prop:=Mi.WX X e m
@[irreducible] def Zb (X:Cx)(e:Expr)(g:List Comprehension)(S:Scope)(c:Pos)(d:Nat)(E:Em):Prop:=Mi.SM X e g S c d E
section
variable {xr:XR}{K:Frag}{a b c:Expr}{es:bW}{m ma mb mc:Ev}{m1 m2:Ex}{st:Stmt}{oV:cb}
def zY:@zy=@Mi.SE/\@gn=@Mi.SA/\@yQ=@Mi.ST/\@Zq=@Mi.SW/\@yn=@Mi.SS/\@yy=@Mi.QN/\@kX=@Mi.SI/\@wR=@Mi.SG/\@ZR=@Mi.SF/\@gr=@Mi.SQ/\@Zi=@Mi.WX/\@Zb=@Mi.SM:=by with_unfolding_all exact⟨rfl,rfl,rfl,rfl,rfl,rfl,rfl,rfl,rfl,rfl,rfl,rfl⟩
def zh {M:Ea}(a:zy X xr e ma)(H:gn X xr es M)(h:ja e es X:=by rfl):gn X xr (e::es) (zj ma M):=by simp only[zY]at*;exact Mi.Xr a H h
def zt:gn X xr [] zw:=by simp only[zY]at*;exact Mi.TX
def qI (H:zy X xr a ma)(h:zy X xr b mb):zy X xr (.BinOp a .Add b o6) (zm qJ ma mb):=by simp only[zY]at*;exact ZG (dC.or (AA.or (Cz.or eD))) fG Aq H h
def YL {q:jW}(H:X.calm=true)(b:X.mg "all"=none)(a:gr X xr e q)(h:Gl X "all":=by rfl)(c:ja e [] X:=by rfl):
  zy X xr (.Call (.Name "all" p) [e] [] o6) (mQ Kh q):=by
 simp only[zY]at*;exact Wu (CW H) MJ Nz b (by rfl) a h (by decide) (by decide) c (by rfl)
def ZE {r:bW}(f:zy X xr a ma)(e:zy X xr (.BoolOp .And (b::r) o6) mb):zy X xr (.BoolOp .And (a::b::r) o6) (kP ma mb):=by
 simp only[zY]at*;exact PE.imp (cU f e) λt H Q ⟨p,A,j,S,i,h⟩=>by
   refine tM.go S i (zV.mp h) λw o c n v g l d q=>?_;cases w with
   |bl k=>
    refine⟨k,q,?_⟩;cases k with|true=>rw[ai rfl];exact⟨c,o,j,d,i.mono l,qy g (λ_ _ z=>z.mono l) λ_ _ z=>z.mono l⟩|false=>rw[aj aH];exact g c n _ l d rfl
   |non=>cases g|int _=>cases g|str _=>cases g|tup _=>cases g|ref _=>cases g|clo _ _ _=>cases g|xc _=>cases g|fn _=>cases g
def AO {q:jW}(H:X.calm=true)(b:X.mg "any"=none)(a:gr X xr e q)(h:Gl X "any":=by rfl)(c:ja e [] X:=by rfl):
  zy X xr (.Call (.Name "any" p) [e] [] o6) (mQ WU q):=by
 simp only[zY]at*;exact Wu (Bq H) MJ Nz b (by rfl) a h (by decide) (by decide) c (by rfl)
def jH {i j}:zy X xr (.Constant (.bool i) j o6) (zT (.bl i)):=by simp only[zY]at*;exact PE.imp cI λb H Q ⟨a,A,c,S,r,h⟩=>h a H _ .refl S rfl
def w6 {g:W->W->Hx->R W}(h:gc X op g)(c:zy X xr a ma)(H:zy X xr b mb)(e:op≠.In:=by decide)(d:op≠.NotIn:=by decide):zy X xr (.Compare a [op] [b] o6) (zm g ma mb):=by simp only[zY]at*;exact let ⟨r,f,a2,A⟩:=h.ex;MN f a2 A c H (h.mks b e d)
def hW {o:CmpOp}{g l:W->W->Hx->R W}(h:gc X op g)(p:gc X o l)(e:zy X xr a ma)(d:zy X xr b mb)(H:zy X xr c mc)(n:lastMarks [op,o] [b,c]=false:=by with_unfolding_all rfl):
  zy X xr (.Compare a [op,o] [b,c] o6) (gO g l ma mb mc):=by
 simp only[zY]at*;exact let ⟨r,q,a2,A⟩:=h.ex;let ⟨j,i,f,B⟩:=p.ex;C0 q a2 A i f B e d H n
def zP {k:Nat}{f:Fn}{M:Ea}(F:qK X.prog X.w X.K X.mg X.base k x n f)(r:jb k X.A)(t:gn X jR (e::es) M)(g:Qe M n:=by repeat' (first|exact zK|refine zu ?_))(j:Gl X x:=by rfl)
  (c:yA x:=by decide)(Y:ja e es X:=by rfl)(l:we o6 es X:=by rfl):
  zy X jR (.Call (.Name x p) (e::es) [] o6) (zO f M):=by
 simp only[zY]at*;obtain⟨fa,fd,ps,F,U,i,o⟩:=F;refine PE.imp (Np F r j U i o .nil eF t c Y l) λZ H Q ⟨N,A,D,S,T,h⟩=>?_;have C:=zV.mp h;refine⟨N,A,D,S,T,?_⟩;cases E:M D A with
 |ok J I=>
  rw[E]at C;intro b H1 P L y q;have v:P.length=n:=by rw[<- q.length];exact g D A J I E
  rw[a5];exact⟨v,b,I,J,y,q,qy C (λ_ _ z=>z.mono L) λx A2 z a B d u=>(z a B (L.trans d) u).elim⟩
 |exc x I=>rw[E]at C;exact C|bad=>rw[E]at C;exact C
def hX {g:W->W->Hx->R W}(h:LS X op g)(c:zy X xr a ma)(H:zy X xr b mb)(d:behindInMarks op b=false:=by rfl):zy X xr (.Compare a [op] [b] o6) (zm g ma mb):=by simp only[zY]at*;exact let ⟨r,e,a2,A⟩:=h.ex;MN e a2 A c H d
def OK (t:zy X xr a ma)(P:zy X xr b mb)(g:ja b [] X:=by rfl)
  (c:attributeBase a "count" X.env (eval a X.env)=eval a X.env:=by rfl)
  (d:((backTo o8 (starEach [b] X.env)).all (λx=>!x.1)&&(backToKw o8 (keywordEach [] X.env)).all (λx=>x.1.isSome)
   && decide ([b].length+([]:b8).length+(if ([]:b8).isEmpty then 0 else 1)<30))=true:=by rfl)(e:(oR.endLine==o8.line)=true:=by rfl):
  zy X xr (.Call (.Attribute a "count" oR) [b] [] o8) (TU XN ma mb):=by
 simp only[zY]at*;exact PE.imp (fV PySem.F.slot_tuple_count PySem.F.type_tuple_count B8 t (jw P yg g) c d e g (by rfl)) λY H Q ⟨U,A,Z,S,J,h⟩=>by
   refine tM.go S J (zV.mp h) λw A1 i H1 v K L y n=>?_;cases w with
   |tup M=>
    obtain⟨p,E,rfl,T,r⟩:=n;refine⟨p,E,rfl,T,?_⟩;refine tM.go y (J.mono L) (qy (zV.mp K) (λ_ _ z=>z) λ_ _ z=>z.mono L) λj A2 f B N C l u q=>?_;unfold XN at C;dsimp only at C
    by_cases D:(yx j&&M.all yx)=true
    ·rw[ai D]at C
     rw[ak]at D;obtain⟨o,I⟩:=UC q D.1 (r.mono l) D.2;refine⟨p,E,N,rfl,rfl,l.tp _ _ T,KZ q D.1,o,?_⟩;rw[I];rw[Xi]at C;exact C f B _ (L.trans l) u (by simp[RV])
    ·rw[aj D]at C;exact C.elim
   |_=>exact K.elim
def Xl:zy X xr (.Dict [] [] o6) Vw:=by
 simp only[zY]at*;exact PE.imp BV λd H Q ⟨c,A,e,S,r,h⟩ p a=>by obtain⟨l,b⟩:=S.alloc (o:=.dct []) a (u:=.dK []) ⟨[],jN,rfl,.nil⟩;exact h _ _ _ l b ⟨p,rfl,by rw[<- S.len];simp⟩
def DP {k:Nat}(u:jb k X.A)(y:zy X xr a ma)(x:zy X xr b mb)(t:Rl b:=by intro _ _;rfl):zy X xr (.Subscript a b o6) (zm SY ma mb):=by
 simp only[zY]at*;exact PE.imp (AI (eH u) y x t) λU H Q ⟨T,A,Y,S,E,h⟩=>by
   refine tM.go S E (zV.mp h) λw A1 e H1 v I l B g=>?_;refine tM.go B (E.mono l) (qy (zV.mp I) (λ_ _ z=>z) λ_ _ z=>z.mono l) λf P c C Z D L d q=>?_;unfold SY at D;cases w with
   |ref n=>
    cases f with
    |int i=>
     obtain rfl:=q;dsimp only[Vr]at D;cases e1:P[n]? with
     |none=>rw[e1]at D;exact D.elim|some o=>cases o with
      |dct K=>
       rw[e1]at D;dsimp only at D;obtain⟨p,us,rfl,f1,N,M,J⟩:=d.dct (g.mono L) e1;cases e2:yV (.inl i) K with
       |none=>rw[e2]at D;exact D.elim|some w=>
        rw[e2]at D;obtain⟨v,j,r⟩:=(UO (.inl i) M J).1 w e2;refine⟨p,v,rfl,?_,D c C v (l.trans L) d r⟩;rw[<- j];exact Kg.k (k:=.inl i) N
      |_=>rw[e1]at D;exact D.elim
    |_=>exact D.elim
   |_=>exact D.elim
def CF {i:Int}{t:Tok}(g:Gl X x)(b:X.mg x=some (.int i t))(d:yA x:=by decide):zy X xr (.Name x o6) (zT (.int i)):=by simp only[zY]at*;exact PE.imp (cL g b (v:=.int i) ⟨t,rfl⟩ d) λc H Q ⟨a,A,e,S,r,h⟩=>h a H _ .refl S rfl
def hZ {c:Expr}(f:yQ X xr c mc)(i:zy X xr a ma)(g:zy X xr b mb):zy X xr (.IfExp c a b o6) (eZ mc ma mb):=by
 simp only[zY]at*;exact PE.imp (B9 f i g) λq H Q ⟨p,A,n,S,r,h⟩=>by
   refine tT.go S r (zV.mp h) λw o j=>?_;cases w with
   |bl k=>
    refine⟨k,rfl,λd t l e=>?_⟩;cases k with|true=>rw[ai rfl];exact⟨d,o,n,e,r.mono l,qy j (λ_ _ z=>z.mono l) λ_ _ z=>z.mono l⟩|false=>rw[aj aH];exact⟨d,o,n,e,r.mono l,qy j (λ_ _ z=>z.mono l) λ_ _ z=>z.mono l⟩
   |non=>cases j|int _=>cases j|str _=>cases j|tup _=>cases j|ref _=>cases j|clo _ _ _=>cases j|xc _=>cases j|fn _=>cases j
def zx {i j}:zy X xr (.Constant (.int i) j o6) (zT (.int i)):=by simp only[zY]at*;exact PE.imp cH λb H Q ⟨a,A,c,S,r,h⟩=>h a H _ .refl S rfl
def gJ (t:Ty){P:Pos}(o:X.mg "isinstance"=none)(b:X.mg x=none)(f:bootBuiltins x=some (.type t.nm))(i:zy X xr e m)(g:Gl X "isinstance":=by rfl)(c:Gl X x:=by rfl)
  (n:x ≠ "__name__":=by decide)(u:yA x:=by decide)
  (j:starEach [e,.Name x P] X.env=(false,eval e X.env)::starEach [.Name x P] X.env:=by rfl)(y:(backTo o6 (starEach [.Name x P] X.env)).any (·.1)=false:=by rfl):
  zy X xr (.Call (.Name "isinstance" p) [e,.Name x P] [] o6) (Zo t m):=by
 simp only[zY]at*;exact PE.imp (QZ AD g o (by rfl) (jw i (jw (Xp c b f (v:=.ty t.nm) rfl n u) yg) j) (by decide) (by decide) j y) λI H Q ⟨D,A,J,S,r,h⟩=>by
   refine tM.go S r (zV.mp h) λw C a B v j l d q=>?_;cases E:jq w C with
   |none=>rw[E]at j;exact j.elim|some T=>
    rw[E]at j;exact⟨v,T,t,rfl,OS d q E,j a B _ l d rfl⟩
def qe (c:zy X xr a ma)(H:zy X xr b mb)(h:NZ b:=by intro _ _;rfl):zy X xr (.Subscript a b o6) (zm zH ma mb):=by simp only[zY]at*;exact PE.imp (ee el c H h) (zm.read fx fy)
def qU {q:jW}(a:X.mg "len"=none)(H:gr X xr e q)(h:Gl X "len":=by rfl)(b:ja e [] X:=by rfl):
  zy X xr (.Call (.Name "len" p) [e] [] o6) (mQ qu q):=by
 simp only[zY]at*;exact Wu FE (λ_ _=>j5) fC a (by rfl) H h (by decide) (by decide) b (by rfl)
def gD {q:jW}(h:ZR X xr e q):zy X xr e (jP q):=by simp only[zY]at*;exact PE.imp h jP.read
def EC {P E:Pos}(u:X.calm=true)(T:X.mg "list"=none)(e:X.mg "range"=none)(x:zy X xr a ma)(t:Gl X "list":=by rfl)(f:Gl X "range":=by rfl)(g:starEach [a] X.env=[(false,eval a X.env)]:=by rfl)
  (c:starEach [.Call (.Name "range" P) [a] [] E] X.env=(false,eval (.Call (.Name "range" P) [a] [] E) X.env)::starEach [] X.env:=by rfl):
  zy X xr (.Call (.Name "list" p) [.Call (.Name "range" P) [a] [] E] [] o6) (Tp ma):=by
 simp only[zY]at*;exact PE.imp (KU (EW u) t T (by rfl) (jw (fY f e (jw x yg (by rw[g];rfl)) g) yg c) (by decide) (by decide) c (by rfl)) λY H Q ⟨U,A,Z,S,M,h⟩=>by
   refine tM.go S M (zV.mp h) λw A1 b J v I L D q=>?_;cases w with
   |int j=>
    obtain rfl:=q;dsimp only at I
    by_cases d:(jG j&&decide (j.toNat<=zX))=true
    ·rw[ai d]at I
     rw[ak,ao]at d;refine⟨j,rfl,λp n=>⟨p,j,rfl,jN,Yw d.1,YC d.2,λl o=>?_⟩⟩;have N:Le X.K b J b (upd J p (.rng 0 j)):=Le.new n;have r:zC X.K b (upd J p (.rng 0 j)) ((List.range j.toNat).map λ(i:Nat)=>W.int i) (JT j.toNat):=by
      have:=(zC.ints (K:=X.K) (φ:=b) (H:=upd J p (.rng 0 j)) (ns:=(List.range j.toNat).map λ(i:Nat)=>(i:Int)) (vs:=JT j.toNat)).mpr (by unfold JT;simp)
      rw[aW]at this;exact this
     obtain⟨C,y,B⟩:=Q6 (D.lay n) o r;exact I _ _ _ ((L.trans N).trans C) y B
    ·rw[aj d]at I;exact I.elim
   |_=>exact I.elim
def qF {M:Ea}(h:gn X xr es M)(H:Qe M n)(c:n<=zX:=by decide):zy X xr (.List es o6) (qO M):=by simp only[zY]at*;exact fb h λa A b d e=>by rw[H a A b d e];exact YC c
def YK {q:jW}(H:X.calm=true)(b:X.mg "max"=none)(a:gr X xr e q)(h:Gl X "max":=by rfl)(c:ja e [] X:=by rfl):
  zy X xr (.Call (.Name "max" p) [e] [] o6) (mQ gh q):=by
 simp only[zY]at*;exact Wu (DI H) fR AZ b (by rfl) a h (by decide) (by decide) c (by rfl)
def OQ (e:X.calm=true)(B:X.mg "min"=none)(o:zy X xr a ma)(n:zy X xr b mb)(l:Gl X "min":=by rfl)(D:ja a [b] X:=by rfl)(C:ja b [] X:=by rfl)(h:we o6 [b] X:=by rfl):
  zy X xr (.Call (.Name "min" p) [a,b] [] o6) (zm Rf ma mb):=by
 simp only[zY]at*;exact MY (Cm e) QE (λt A H x y u v Q S d c p=>by
   obtain⟨i,j,r,E,q⟩:=Qs (K:=X.K) (f:=λi j=>.int (if j<i then j else i)) (g:=λi j=>.int (if j<i then j else i)) (λ_ _ _ _=>rfl) t A H x y u v Q S d c p;subst r;subst E;exact⟨i,j,rfl,q⟩) B (by rfl) o n l (by decide) (by decide) D C h
def gG (H:zy X xr a ma)(h:zy X xr b mb):zy X xr (.BinOp a .Mod b o6) (zm Y4 ma mb):=by simp only[zY]at*;exact ZG dF WC (Wq fj λ_ _ _ _=>rfl) H h
def jz (H:zy X xr a ma)(h:zy X xr b mb):zy X xr (.BinOp a .Mult b o6) (zm qE ma mb):=by simp only[zY]at*;exact ZG (dE.or eE) fH fJ H h
def Td (h:zy X xr a ma):zy X xr (.UnaryOp .USub a o6) (g7 WS ma):=by
 simp only[zY]at*;exact eX dO (λx A=>by unfold WS;split;exact j5;exact jc) (λb A H x u Q S q p=>by
  cases u with|int i=>obtain rfl:=q;exact⟨i,rfl,p b H _ .refl S rfl⟩|_=>exact p.elim) h
def Qr {j}:zy X xr (.Constant .none j o6) (zT .non):=by simp only[zY]at*;exact PE.imp cJ λb H Q ⟨a,A,c,S,r,h⟩=>h a H _ .refl S rfl
def NA (c:zy X xr a ma):zy X xr (.UnaryOp .Not a o6) (ym ma):=by
 simp only[zY]at*;exact PE.imp (cV c) λi H Q ⟨g,A,j,S,r,h⟩=>by
   refine tM.go S r (zV.mp h) λw n b f v e l d q=>?_;cases w with|bl k=>exact⟨k,q,e b f _ l d rfl⟩|non=>cases e|int _=>cases e|str _=>cases e|tup _=>cases e|ref _=>cases e|clo _ _ _=>cases e|xc _=>cases e|fn _=>cases e
def Z3 {op}(h:zy X xr a ma):zy X xr (.BoolOp op [a] o6) ma:=by simp only[zY]at*;exact cT h
def EF (ho:zy X xr a ma)(he:zy X xr b mb)(hf:zy X xr c mc)(h1:ja b [c] X:=by rfl)(h2:ja c [] X:=by rfl)
  (j:attributeBase a "setdefault" X.env (eval a X.env)=eval a X.env:=by rfl)
  (r:((backTo o8 (starEach [b,c] X.env)).all (λx=>!x.1)&&(backToKw o8 (keywordEach [] X.env)).all (λx=>x.1.isSome)
   && decide ([b,c].length+([]:b8).length+(if ([]:b8).isEmpty then 0 else 1)<30))=true:=by rfl)(g:(oR.endLine==o8.line)=true:=by rfl)(J:we o8 [c] X:=by rfl):
  zy X xr (.Call (.Attribute a "setdefault" oR) [b,c] [] o8) (Wo Q1 ma mb mc):=by
 simp only[zY]at*;exact PE.imp (Lo PySem.F.plainAttrs_dict PySem.F.slot_dict_setdefault PySem.F.type_dict_setdefault Dm ho (jw he (jw hf yg h2) h1) j r g h1 J) λσ H Q ⟨φ,A,ρ,S,re,h⟩=>by
   refine tM.go S re (zV.mp h) λw A1 oU H1 v h1 D S1 Y=>?_
   by_cases hd:VB w A1=true
   ·rw[ai hd]at h1
    refine⟨B5 S1 Y hd,?_⟩;refine tM.go S1 (re.mono D) (qy (zV.mp h1) (λ_ _ z=>z) λ_ _ z=>z.mono D) λt A2 φ2 H2 v2 h2 l2 S2 q2=>?_;have l:=D.trans l2;refine tM.go S2 (re.mono l) (qy (zV.mp h2) (λ_ _ z=>z) λ_ _ z=>z.mono l) λw3 A3 f N q d Z M U=>?_;have L:=l.trans Z;unfold Q1 at d;cases w with
    |ref n=>cases t with
     |int i=>
      obtain rfl:=q2;dsimp only[Vr]at d;cases e1:A3[n]? with
      |none=>rw[e1]at d;exact d.elim|some o=>cases o with
       |dct kvs=>
        rw[e1]at d;dsimp only at d;obtain⟨p,us,rfl,f1,g1,g2,g3⟩:=M.dct ((Y.mono l2).mono Z) e1;have hlen:us.length=kvs.length:=by have:=congrArg List.length g2;simpa using this
        by_cases E:kvs.length<zX
        ·rw[ai E]at d
         have C:=UO (.inl i) g2 g3;refine⟨p,us,.inl i,q,rfl,rfl,g1,?_,λv' I=>?_,λhn=>?_⟩
         ·rw[hlen]
          have:sizeLine=16777216:=sizeLine_eq
          unfold zX at E;lia
         ·cases e2:yV (.inl i) kvs with
          |none=>rw[C.2 e2]at I;cases I|some y=>
           rw[e2]at d;obtain⟨B,e,T⟩:=C.1 y e2;rw[I]at e;cases e;exact d f N _ L M T
         ·cases e2:yV (.inl i) kvs with
          |some y=>obtain⟨B,e,T⟩:=C.1 y e2;rw[hn]at e;cases e|none=>
           rw[e2]at d;dsimp only at d;rw[CI q hn];have ln:Le X.K f N f (upd N p (.dK (us++[(.inl i,q)]))):=Le.upd f1 (λxs z=>by rw[g1]at z;cases z) (λ_ _ z=>by rw[g1]at z;cases z)
           obtain⟨P,t⟩:=M.write (o:=.dct kvs) (o':=.dct (kvs++[(.inl i,w3)])) e1 rfl rfl f1 (u:=.dK (us++[(.inl i,q)])) ⟨us++[(.inl i,q)],jN,by simp[g2],by rw[aN,aN];exact(g3.mono ln).append (.one (U.mono ln))⟩
           exact d _ _ _ (L.trans P) t (U.mono P)
        ·rw[aj E]at d;exact d.elim
       |_=>rw[e1]at d;exact d.elim
     |_=>exact d.elim
    |_=>exact d.elim
   ·rw[aj hd]at h1;exact h1.elim
def Z2 (H:zy X xr a ma)(h:zy X xr b mb):zy X xr (.BinOp a .Sub b o6) (zm gX ma mb):=by simp only[zY]at*;exact ZG dD QE (Qs λ_ _ _ _=>rfl) H h
def Xo {q:jW}(H:X.calm=true)(b:X.mg "sum"=none)(a:gr X xr e q)(h:Gl X "sum":=by rfl)(c:ja e [] X:=by rfl):
  zy X xr (.Call (.Name "sum" p) [e] [] o6) (mQ gU q):=by
 simp only[zY]at*;exact Wu (Dq H) fS Ay b (by rfl) a h (by decide) (by decide) c (by rfl)
def qG {x1}{M:Ea}(h:gn X xr es M)(c:Qe M n)(u:n<=zX:=by decide):zy X xr (.Tuple es x1 o6) (qP M):=by
 simp only[zY]at*;exact PE.imp (Ml h) λy H Q ⟨j,A,i,S,r,h⟩=>by
   have g:=zV.mp h;cases e:M i A with
   |ok t o=>
    rw[e]at g;refine⟨j,A,i,S,r,?_⟩;rw[e];intro a C B l f q;refine⟨by rw[<- q.length,c i A t o e];exact YC u,λp b=>?_⟩
    obtain⟨v,a2,d⟩:=Qy f b q;exact g _ _ _ (l.trans v) a2 d
   |exc x o=>rw[e]at g;refine⟨j,A,i,S,r,?_⟩;rw[e];exact g|bad=>rw[e]at g;exact g.elim
def j9 {q:jW}(a:X.mg "tuple"=none)(H:gr X xr e q)(h:Gl X "tuple":=by rfl)(b:ja e [] X:=by rfl):
  zy X xr (.Call (.Name "tuple" p) [e] [] o6) (mQ gT q):=by
 simp only[zY]at*;exact fA HC (λ_ _=>j5) fD a (by rfl) H h (by decide) (by decide) b (by rfl)
def Aj (i:Nat)(b:X.N[i]? =some x:=by rfl)(a:WW X.env.scope x:=by first|exact Or.inl rfl|exact Or.inr (Or.inl rfl)|exact Or.inr (Or.inr rfl))(g:yA x:=by decide)
  (d:(x==("__classdict__":Str))=false:=by decide):zy X xr (.Name x o6) (zU i):=by
 simp only[zY]at*;exact PE.imp (ML b a g d) λn H Q ⟨c,A,f,S,r,h⟩=>by
  unfold zU at h;cases e:f[i]? with
  |none=>rw[e]at h;cases h|some o=>cases o with
   |none=>rw[e]at h;cases h|some w=>
    rw[e]at h;obtain⟨v,l,j⟩:=r.get i w e;exact⟨v,l,h c H v .refl S j⟩
def Ct {i:Ei}{t:Tg}{M:Ev}{e:Em}(l:Nat)(C:bT)(c:X.calm=true)(S:gE X sc)(p:Qa X.N N sc l C=true)(d:kX X xr tg o7 i)
  (n:∀s H fp,wR (jA X N sc s H fp j7) tg t/\Zi (jA X N sc s H fp j7) ifs M/\Zb (jA X N sc s H fp j7) oS (⟨tg,o7,ifs,0⟩::gs) sc o6 0 e)
  (b:∀g',gs[0]? =some g'->g'.is_async=0:=by intro _ h;cases h<;>rfl)
  (a:∀x,foldedSetIterable o7 X.env x=pure x:=by intro _;rfl):ZR X xr (.ListComp oS (⟨tg,o7,ifs,0⟩::gs) sc o6) (qD l C i t M e):=by
 simp only[zY]at*;exact PE.imp (AF (g:=tG X.K t) (ti:=tT X.K jR M) (tm:=tE X.K e) c S p b d n a) qD.read
def kG (i j:Nat){y:Str}{q:Pos}{k:Nat}(r:X.calm=true)(h:X.N.Nodup)(n:X.N[i]? =some x:=by rfl)(f:Loc X.env.scope x:=by first|exact Or.inl rfl|exact Or.inr rfl)(J:QP X x:=by first|exact .inl rfl|exact .inr rfl)
  (l:X.N[j]? =some y:=by rfl)(d:Loc X.env.scope y:=by first|exact Or.inl rfl|exact Or.inr rfl)(o:QP X y:=by first|exact .inl rfl|exact .inr rfl):wR X (.Tuple [.Name x p,.Name y q] k o6) (jZ i j):=by
 simp only[zY]at*;exact PG.imp (TR r (YE (YU h n f J) (YE (YU h l d o) TB))) λv T H Q ⟨P,A,U,w,b,S,I,c,e,K⟩=>by
   unfold jZ at e
   split at e
   ·rename_i Z Y
    have E:=aE e;subst E;obtain⟨a,vs,rfl,g,D⟩:=c;obtain⟨C,u,rfl,M,B,t,rfl,L,rfl⟩:=D;exact⟨a,[C,B],rfl,g,rfl,C,[B],rfl,B,[],rfl,rfl,K _ ((I.set M).set L)⟩
   ·cases e
def D6 (i j k:Nat){y z:Str}{q r pp:Pos}{t:Nat}(f:X.calm=true)(c:X.N.Nodup)(J:X.N[i]? =some x:=by rfl)(C:Loc X.env.scope x:=by first|exact Or.inl rfl|exact Or.inr rfl)(hf:QP X x:=by first|exact .inl rfl|exact .inr rfl)
  (I:X.N[j]? =some y:=by rfl)(B:Loc X.env.scope y:=by first|exact Or.inl rfl|exact Or.inr rfl)(L:QP X y:=by first|exact .inl rfl|exact .inr rfl)
  (E:X.N[k]? =some z:=by rfl)(u:Loc X.env.scope z:=by first|exact Or.inl rfl|exact Or.inr rfl)(K:QP X z:=by first|exact .inl rfl|exact .inr rfl):
  wR X (.Tuple [.Name x p,.Tuple [.Name y q,.Name z r] t pp] n o6) (XU i j k):=by
 simp only[zY]at*;exact PG.imp (TR f (YE (YU c J C hf) (YE (TR f (YE (YU c I B L) (YE (YU c E u K) TB))) TB))) λv σ H Q ⟨φ,A,ρ,w,g,S,re,o,e,kk⟩=>by
   unfold XU at e
   split at e
   ·rename_i x1 Y Z
    have T:=aE e;subst T;obtain⟨a,vs,rfl,D,rs⟩:=o;obtain⟨v1,r1,rfl,h1,v2,r2,rfl,h2,rfl⟩:=rs;obtain⟨a2,l,rfl,h,b⟩:=h2;obtain⟨d,r3,rfl,P,v4,U,rfl,M,rfl⟩:=b;exact⟨a,[v1,.ref a2],rfl,D,rfl,v1,[.ref a2],rfl,.ref a2,[],rfl,a2,[d,v4],rfl,h,rfl,d,[v4],rfl,v4,[],rfl,rfl,rfl,kk _ (((re.set h1).set P).set M)⟩
   ·cases e
def jh (i:Nat)(c:X.N.Nodup)(b:X.N[i]? =some x:=by rfl)(h:Loc X.env.scope x:=by first|exact Or.inl rfl|exact Or.inr rfl)(f:QP X x:=by first|exact .inl rfl|exact .inr rfl):wR X (.Name x o6) (zQ i):=by
 simp only[zY]at*;exact PG.imp (YU c b h f) λv j H Q ⟨g,A,d,w,a,S,r,q,e,k⟩=>by have E:d.set i (some w)=a:=aE e;subst E;exact k _ (r.set q)
def j6 (h:zy X xr e m):kX X xr tg e (q9 m):=by
 simp only[zY]at*;exact PI.imp (fg h) λσ H Z ⟨φ,A,ρ,S,re,h⟩=>by
  refine tM.go S re (zV.mp h) λw A1 f H1 v h1 N M Q=>?_;unfold WM at h1;cases e:zW w A1 with
  |none=>rw[e]at h1;exact h1.elim|some ws=>
   rw[e]at h1;dsimp only at h1;cases w with
   |tup us=>
    obtain⟨a,ys,rfl,g,q⟩:=Q;refine⟨a,rfl,.inr ⟨⟨ys,g⟩,h1 f H1 _ N M λi c j A' lw d=>⟨λB b=>?_,λb=>?_⟩⟩⟩
    ·have E:us[i]? =some B:=aE b
     obtain⟨y,l,D⟩:=(q.monoW lw).get E;refine⟨⟨ys,y,lw.tp _ _ g,l⟩,λx U u=>?_⟩;obtain⟨L,J⟩:=u;subst L;have p:=J ys (lw.tp _ _ g);rw[l]at p;cases p;exact⟨.refl,d,D⟩
    ·have E:us[i]? =none:=aE b
     refine⟨ys,lw.tp _ _ g,?_⟩;rw[<- q.length];exact List.getElem?_eq_none_iff.mp E
   |ref n=>
    obtain⟨a,rfl,g⟩:=Q;have read:∀{c j A' us},QT X.K f H1 c j->zL X.K c A' j->zW (.ref n) A'=some us->∃ys,qX X.K j a ys/\zC X.K c j us ys:=λ {c j A' us} lw d es=>by
     obtain⟨T,ys,P,z,r⟩:=GH (w:=.ref n) (v:=.ref a) d ⟨a,rfl,lw.ex _ _ g⟩ es;cases P;unfold zW at es;dsimp only at es;cases I:A'[n]? with
     |none=>rw[I]at es;cases es|some o=>
      rw[I]at es;obtain⟨T,q,r⟩:=d.ob n o I;rw[lw.ex _ _ g]at q;cases q;cases o with|lst xs=>cases es;obtain⟨ys,h1,h2⟩:=r;exact⟨ys,qX.of h1,h2⟩|ro xs=>cases es;obtain⟨ys,h1,h2⟩:=r;exact⟨ys,h1.sq,h2⟩|dct xs=>cases es|td _=>cases es|tr _=>cases es|tab _ _=>cases es
    obtain⟨Y,C,_⟩:=read ⟨λ_ _ h=>h,λ_ _ h=>h,λ_ _ _ h=>h⟩ M e;refine⟨a,rfl,.inl ⟨⟨Y,C⟩,h1 f H1 _ N M λi c j A' lw d=>⟨λB b=>?_,λb=>?_⟩⟩⟩
    ·dsimp only at b
     cases es:zW (.ref n) A' with
     |none=>rw[es]at b;cases b|some us=>
      rw[es]at b;have E:us[i]? =some B:=aE b;obtain⟨ys,t,r⟩:=read lw d es;obtain⟨y,l,D⟩:=r.get E;refine⟨⟨ys,y,t,l⟩,λx U u=>?_⟩;obtain⟨L,J⟩:=u;subst L;have p:=J ys t;rw[l]at p;cases p;exact⟨.refl,d,D⟩
    ·dsimp only at b
     cases es:zW (.ref n) A' with
     |none=>rw[es]at b;cases b|some us=>
      rw[es]at b;have E:us[i]? =none:=aE b;obtain⟨ys,t,r⟩:=read lw d es;refine⟨ys,t,?_⟩;rw[<- r.length];exact List.getElem?_eq_none_iff.mp E
   |non=>cases e|bl _=>cases e|clo _ _ _=>cases e|xc _=>cases e|fn _=>cases e|int _=>cases e|str _=>cases e
def YF (g:Gl X "enumerate")(n:X.mg "enumerate"=none)(e:zy X xr a ma)(c:starEach [a] X.env=[(false,eval a X.env)]:=by rfl):kX X xr (.Tuple oY kk oQ) (.Call (.Name "enumerate" p) [a] [] o6) (Jd ma):=by
 simp only[zY]at*;exact PI.imp (f7 g n (jw e yg (by rw[c];rfl)) c) λx H r ⟨u,A,B,S,j,h⟩=>by
   refine tM.go S j (zV.mp h) λw t b o v i l d q=>?_;cases es:zW w t with
   |none=>rw[es]at i;exact i.elim|some C=>
    rw[es]at i;obtain⟨p,y,rfl,Z,f⟩:=G8 d q es;exact⟨p,Jf w,y,rfl,Z,i b o _ l d (f9 q)⟩
set_option tactic.hygienic true in
def DO (j:zy X xr a ma)(d:attributeBase a "items" X.env (eval a X.env)=eval a X.env:=by rfl)(e:(oR.endLine==o8.line)=true:=by rfl):
  kX X xr (.Tuple oY kk oQ) (.Call (.Attribute a "items" oR) [] [] o8) (XI ma):=by
 simp only[zY]at*;exact PI.imp (CP j d e) λσ H x ⟨M,A,ρ,S,N,h⟩=>by
   unfold XI at h;cases A with
   |cons o A=>exact h.elim|nil=>
    dsimp only at h;have g:M=[]:=by have:=S.len;simpa using this
    subst g;refine tM.go S N (zV.mp h) λw A1 i L v B l r q=>?_
    split at B
    ·rename_i C
     by_cases D:qR (C.map (·.2))=true
     ·rw[ai D]at B
      obtain⟨p,I,rfl,Z,E,Y,Q⟩:=r.dct q (kvs:=C) rfl;have J:H p=none:=by
       rcases l.nw 0 p Z with z|z
       ·simp at z
       ·exact z
      refine⟨p,I,rfl,E,λo=>?_⟩;have T:∀c y,qz X.K L c y->qz X.K (upd L p (.frz o (.dK I))) c y:=λc y t=>Xg t (λxs z=>by rw[E]at z;cases z) (λ_ _ z=>by rw[E]at z;cases z)
      have le:Le X.K [] H [] (upd L p (.frz o (.dK I))):=by
       refine⟨λn c z=>z,λc y t=>T c y (l.tp c y t),λc u b P=>?_,λn c z=>.inl z,λc z=>?_,λc u U b=>?_⟩
       ·rw[qm (kY b J)];exact l.fr c u b P
       ·by_cases f:c=p
        ·rw[f];exact J
        ·rw[qm f]at z;exact l.st c z
       ·rw[qm (kY b J)];exact l.fz c u U b
      exact B [] _ _ le zL.none (hV (o:=o) jN Y (Q.nrm T (λc u U b=>by rw[qm (Kc b E (by intro z;cases z))];exact b) D) D)
     ·rw[aj D]at B;exact B.elim
    ·exact B.elim
def jg (g:Gl X "range")(t:X.mg "range"=none)(e:zy X xr a ma)(d:starEach [a] X.env=[(false,eval a X.env)]:=by rfl):kX X xr tg (.Call (.Name "range" p) [a] [] o6) (jU ma):=by
 simp only[zY]at*;exact PI.imp (DN g t (jw e yg (by rw[d];rfl)) d) λy H r ⟨x,A,C,S,o,h⟩=>by
   refine tM.go S o (zV.mp h) λw D b u v n l i q=>?_;cases w with
   |int j=>
    obtain rfl:=q;dsimp only at n
    by_cases c:jG j=true
    ·rw[ai c]at n
     obtain⟨f,B⟩:=Yw c;exact⟨j,rfl,f,B,n b u _ l i Mr⟩
    ·rw[aj c]at n;exact n.elim
   |non=>exact n.elim|bl _=>exact n.elim|str _=>exact n.elim|tup _=>exact n.elim|ref _=>exact n.elim|clo _ _ _=>exact n.elim|xc _=>exact n.elim|fn _=>exact n.elim
def G3 (o:Gl X "range")(M:X.mg "range"=none)(t:zy X xr a ma)(r:zy X xr b mb)(f:starEach [a,b] X.env=[(false,eval a X.env),(false,eval b X.env)]:=by rfl)(c:starEach [b] X.env=[(false,eval b X.env)]:=by rfl):kX X xr tg (.Call (.Name "range" p) [a,b] [] o6) (Jg ma mb):=by
 simp only[zY]at*;exact PI.imp (D7 o M (jw t (jw r yg (by rw[c];rfl)) (by rw[f,c])) f c) λT H I ⟨P,A,U,S,K,h⟩=>by
   refine tM.go S K (zV.mp h) λw A1 g Z v N l D Q=>?_;refine tM.go D (K.mono l) (qy (zV.mp N) (λ_ _ z=>z) λ_ _ z=>z.mono l) λn A2 e E Y J L C q=>?_;cases w with
   |int i=>
    obtain rfl:=Q;cases n with
    |int j=>
     obtain rfl:=q;dsimp only at J
     by_cases d:(jG i&&jG j)=true
     ·rw[ai d]at J
      rw[ak]at d;obtain⟨y,x⟩:=Yw d.1;obtain⟨u,B⟩:=Yw d.2;exact⟨i,j,rfl,⟨y,x,u,B⟩,J e E _ (l.trans L) C Mr⟩
     ·rw[aj d]at J;exact J.elim
    |non=>exact J.elim|bl _=>exact J.elim|str _=>exact J.elim|tup _=>exact J.elim|ref _=>exact J.elim|clo _ _ _=>exact J.elim|xc _=>exact J.elim|fn _=>exact J.elim
   |non=>exact J.elim|bl _=>exact J.elim|str _=>exact J.elim|tup _=>exact J.elim|ref _=>exact J.elim|clo _ _ _=>exact J.elim|xc _=>exact J.elim|fn _=>exact J.elim
def YO (t:Gl X "zip")(N:X.mg "zip"=none)(x:zy X xr a ma)(u:zy X xr b mb)(i:ja a [b] X:=by rfl)(d:ja b [] X:=by rfl)(r:we o6 [b] X:=by rfl):
  kX X xr (.Tuple oY kk oQ) (.Call (.Name "zip" p) [a,b] [] o6) (Zj ma mb):=by
 simp only[zY]at*;exact PI.imp (hh t N (jw x (jw u yg d) i) i r) λσ H E ⟨U,A,ρ,S,J,h⟩=>by
   refine tM.go S J (zV.mp h) λw A1 j H1 v T l y o=>?_;refine tM.go y (J.mono l) (qy (zV.mp T) (λ_ _ z=>z) λ_ _ z=>z.mono l) λg K c B v2 I L f Q=>?_;cases es:zW w K with
   |none=>rw[es]at I;exact I.elim|some us=>
    cases e:zW g K with
    |none=>rw[es,e]at I;exact I.elim|some vs=>
     rw[es,e]at I;have q:=o.mono L;obtain⟨p,M,rfl,n,D⟩:=G8 f q es;obtain⟨P,Y,rfl,Z,C⟩:=G8 f Q e;exact⟨p,P,Jf w,Jf g,M,Y,rfl,n,Z,I c B _ (l.trans L) f (hA q Q)⟩
def Am {d:Nat}{M:Ev}(x:∀e s,X.xe e s->False)(E:zy X jR oS M)(o:gens[d+1]? =none):Zb X oS gens sc o6 d (qw M):=by
 simp only[zY]at*;exact gw.imp (BO x E o) λD C H Q ⟨I,A,J,B,Y,S,y,p,n,r,h⟩=>by
   refine tM.go S y (U4 (zV.mp h)) λw L f K v u l t q=>?_;obtain⟨c,N⟩:=l.off p n
   by_cases g:B.length<zX
   ·rw[ai g]at u
    have j:=r.length;refine⟨Y,c,?_,?_⟩
    ·rw[<- j]
     have:sizeLine=16777216:=sizeLine_eq
     unfold zX at g;lia
    ·exact u f _ C _ (l.toD.trans (yX.upd c)) N (t.off c N) ⟨y.len,λi w e=>let ⟨v,a,b⟩:=y.get i w e;⟨v,a,(b.mono l).monoD (yX.upd c)⟩⟩ jN
      (((r.mono l).monoD (yX.upd c)).append (.one (q.monoD (yX.upd c))))
   ·rw[aj g]at u;exact u.elim
def h6 {d:Nat}{Y:Ei}{T:Tg}{M:Ev}{Z:Em}(o:∀e s,X.xe e s->False)(y:X.calm=true)(v:gens[d+1]? =some ⟨tg,o7,ifs,0⟩)(B:∀g',gens[d+2]? =some g'->g'.is_async=0)
  (hw:kX X jR tg o7 Y)(t:wR X tg T)(u:Zi X ifs M)(hm:Zb X oS gens sc o6 (d+1) Z)(q:∀x,foldedSetIterable o7 X.env x=pure x:=by intro _;rfl):Zb X oS gens sc o6 d (Wx Y T M Z):=by
 simp only[zY]at*;exact gw.imp (BN o y v B hw t u hm q) λD σ H Q ⟨φ,A,ρ,acc,ys,S,U,C,n,f,h⟩=>by refine⟨φ,A,ρ,S,U,qy (U4 (zV.mp h)) (λj A1 h1 c H1 J l K i=>?_) λ_ _ z=>z⟩;obtain⟨E,n1⟩:=l.off C n;exact qZ.read i K (U.mono l) E n1 (f.mono l) (qy h1 (λp A2 h2 a P b zs L N I r d2 g=>h2 a P b zs (l.toD.trans L) N I r d2 g) λ_ _ z=>z)
def qp (h:zy X xr e m):gr X xr e (qa m):=by
 simp only[zY]at*;exact PE.imp h λn H Q ⟨j,A,o,S,r,h⟩=>by
  refine tM.go S r (zV.mp h) λw i b g v f l c q=>?_;cases e:zW w i with
  |none=>rw[e]at f;exact f.elim|some p=>
   rw[e]at f;obtain⟨a,y,rfl,d,E⟩:=GH c q e;exact f b g a y l c d E
def yc {q:jW}(h:ZR X xr e q):gr X xr e q:=by
 simp only[zY]at*;exact PE.imp h λo H Q ⟨d,A,f,S,g,h⟩=>
  ⟨d,A,f,S,g,qy h (λp u i a j D y l c t b n r=>i a j D y l c (.inl (qX.of b)) r) λ_ _ z=>z⟩
def Ab {o i:Expr}{mo mi:Ev}(ho:zy X xr o mo)(hi:zy X xr i mi)(he:zy X xr e m)
  (ha:∀b I new,augStore i b I new=(do holding [new,b,I] (setItem b I new);release [new,b,I] [];pure .next):=by intros;rfl):yn X xr (.AugAssign (.Subscript o i oQ) .Add e o6) (X1 mo mi m):=by
 simp only[zY]at*;exact PS.imp (dm ho hi BG he dt set_list ha) λD σ H ⟨φ,A,ρ,S,re,h⟩=>by
   refine tM.go S re (zV.mp h) λT A1 N H1 v1 h1 g S1 q=>?_;refine tM.go S1 (re.mono g) (qy (zV.mp h1) (λ_ _ z=>z) λ_ _ z=>z.mono g) λj A2 M H2 v2 h2 f C q2=>?_;have l:=g.trans f;cases T with
   |ref n=>cases j with
    |int k=>
     obtain rfl:=q2;dsimp only at h2
     by_cases h0:0<=k
     ·rw[ai h0]at h2
      cases e1:(A2[n]?:Option O) with
      |none=>rw[e1]at h2;exact h2.elim|some ob=>cases ob with
       |lst ws=>
        rw[e1]at h2;dsimp only at h2;obtain⟨p,vs,rfl,f1,g1,Y⟩:=C.lst (q.mono f) e1;cases e2:ws[k.toNat]? with
        |none=>rw[e2]at h2;exact h2.elim|some P=>cases P with
         |int x=>
          rw[e2]at h2;dsimp only at h2;obtain⟨v,hv,U⟩:=Y.get e2;obtain rfl:=U;refine⟨p,vs,k,_,rfl,rfl,h0,g1,hv,?_⟩;refine tM.go C (re.mono l) (qy (zV.mp h2) (λ_ _ z=>z) λ_ _ z=>z.mono l) λQ J d H3 v3 a B S3 Z=>?_;have L:=l.trans B;cases Q with
          |int y=>
           obtain rfl:=Z;dsimp only at a;refine⟨x,y,rfl,rfl,?_⟩;refine N0 (K:=X.K) d J H3 (.ref p) (.int k) (.int (x+y)) (.ref n) (.int k) (.int (x+y)) _ S3 ((q.mono f).mono B) rfl rfl ?_;cases r:wQ (.ref n) (.int k) (.int (x+y)) J with
           |ok u E=>
            rw[r]at a;exactλc H4 t S4=>a c H4 σ (L.trans t) S4 (re.mono (L.trans t))
           |exc z E=>exact absurd r (Md _ _ _ _ z E)|bad=>rw[r]at a;exact a.elim
          |_=>exact a.elim
         |_=>rw[e2]at h2;exact h2.elim
       |_=>rw[e1]at h2;exact h2.elim
     ·rw[aj h0]at h2;exact h2.elim
    |_=>exact h2.elim
   |_=>cases j<;>exact h2.elim
def h7:yn X xr st LD:=by simp only[zY]at*;exactλp s b H D I ⟨a,A,c,S,r,h⟩=>h.elim
def zq (H:yn X xr st m1)(h:yy X xr oV m2):yy X xr (st::oV) (zG m1 m2):=by simp only[zY]at*;exact Mi.Xn H h
def yq (f:zy X xr e m)(b:swapsWith e none o6.line X.env=pure false:=by rfl):yn X xr (.Expr e o6) (wg m):=by simp only[zY]at*;exact PS.imp (c6 f b) λD d H ⟨j,A,n,S,r,h⟩=>tM.go S r (zV.mp h) λw o a i v g l c q=>g a i d l c (r.mono l)
def jm {mi:Ei}{tw:Tg}(hp:PassesOwn (model X.prog X.w) X.A X.env X.xe)(hc:X.calm=true)(hi:kX X xr tg o7 mi)(hg:wR X tg tw)(hb:yy X xr body m1)
  (hs:∀x,foldedSetIterable o7 X.env x=pure x:=by intro _;rfl):yn X xr (.For tg o7 body [] o6) (jM mi tw m1):=by
 simp only[zY]at*;exact PS.imp (dz hp hc hi hg hb hs) λD σ H ⟨φ,A,ρ,S,re,h⟩=>by
   refine⟨φ,A,ρ,S,re,qy (zV.mp h) (λj A1 h1 e H1 J P S1 jr=>?_) λ_ _ z=>z⟩;refine⟨λi f c I=>Il X.K xr j (turn tw m1) D e H1 f i c I,
    ⟨j.len,e,A1,ρ,.refl,S1,re.mono P,qy h1 (λ_ _ z=>z.mono P) λ_ _ z=>z.mono P⟩,?_⟩
   rintro i f M Y ⟨b,A2,q,u,U,t,h2⟩
   obtain⟨j1,j2⟩:=jr i b Y A2 ⟨u.ex,u.tp,u.fz⟩ U;cases E:j.at_ A2 i with
   |none=>cases f<;>(unfold yb at h2;rw[E]at h2;exact h2.elim)|some o=>
    cases o with
    |none=>
     left
     refine⟨j2 E,?_⟩;cases f<;>(unfold yb at h2;rw[E]at h2;exact h2 b Y M .refl U t)
    |some w=>
     right
     obtain⟨go,yl⟩:=j1 w E;cases f with
     |zero=>unfold yb at h2;rw[E]at h2;exact h2.elim|succ f=>
      unfold yb at h2;rw[E]at h2;refine⟨go,λc I=>Il X.K xr j (turn tw m1) D e H1 f (i+1) c I,λc I z=>⟨f,bx _,z⟩,λx H3 y=>?_⟩;obtain⟨L,T,q3⟩:=yl x H3 y;have v:=zV.mp h2;unfold turn at v;cases Q:tw w q with
      |none=>rw[Q]at v;exact v.elim|some p=>
       rw[Q]at v;refine⟨b,A2,q,w,p,T,t.mono L,q3,Q,λσ3 N=>?_⟩;refine⟨b,A2,p,T,N,qy v (λfl Z C=>?_) λ_ _ z=>z.mono L⟩;cases fl with|nx d=>exactλa B g l n r=>⟨a,Z,d,(u.trans L).trans l,n,r,qy C (λ_ _ z=>z.mono (L.trans l)) λ_ _ z=>z.mono (L.trans l)⟩|ct d=>exactλa B g l n r=>⟨a,Z,d,(u.trans L).trans l,n,r,qy C (λ_ _ z=>z.mono (L.trans l)) λ_ _ z=>z.mono (L.trans l)⟩|bk d=>exactλa B g l n r=>C a B g (L.trans l) n r|rt w4=>exactλa B v4 l n q4=>C a B v4 (L.trans l) n q4
def ji {n b:cb}(e:yQ X xr c mc)(g:yy X xr n m1)(f:yy X xr b m2):yn X xr (.If c n b o6) (jk mc m1 m2):=by
 simp only[zY]at*;exact PS.imp (da e g f) λD q H ⟨p,A,j,S,r,h⟩=>by
   refine tT.go S r (zV.mp h) λw o i=>?_;cases w with
   |bl k=>
    refine⟨k,rfl,λa t l d=>?_⟩;cases k with|true=>rw[ai rfl];exact⟨a,o,j,d,r.mono l,qy i (λ_ _ z=>z.mono l) λ_ _ z=>z.mono l⟩|false=>rw[aj aH];exact⟨a,o,j,d,r.mono l,qy i (λ_ _ z=>z.mono l) λ_ _ z=>z.mono l⟩
   |non=>cases i|int _=>cases i|str _=>cases i|tup _=>cases i|ref _=>cases i|clo _ _ _=>cases i|xc _=>cases i|fn _=>cases i
def zB:yy X xr [] zS:=by simp only[zY]at*;exact yP.imp c3 λD b H ⟨a,A,c,S,r,h⟩=>h a H b .refl S r
def qd (c:zy X xr e m):yn X xr (.Return (some e) o6) (gm m):=by simp only[zY]at*;exact PS.imp (c8 c) λD i H ⟨g,A,j,S,r,h⟩=>tM.go S r (zV.mp h) λw n a f v d l b q=>d a f v l b q
def Au (i:Nat){p:Pos}(b:X.N.Nodup)(c:zy X xr e m)(a:X.N[i]? =some x:=by rfl)(h:Loc X.env.scope x:=by first|exact Or.inl rfl|exact Or.inr rfl)(H:swapsWith e (some (.Name x p)) o6.line X.env=pure false:=by rfl)
  (f:QP X x:=by first|exact .inl rfl|exact .inr rfl):yn X xr (.Assign [.Name x p] e o6) (qA i m):=by
 simp only[zY]at*;exact PS.imp (dh b a h c H f) qA.read
def Yt (i:Nat){r:Ei}{t:Tg}{M:Ev}{E:Em}{P a:Pos}(q:Nat)(C:bT)(l:X.N.Nodup)
  (f:X.calm=true)(S:gE X sc)(p:Qa X.N N sc q C=true)(u:kX X xr tg o7 r)
  (n:∀s H fp,wR (jA X N sc s H fp j7) tg t/\Zi (jA X N sc s H fp j7) ifs M/\Zb (jA X N sc s H fp j7) oS (⟨tg,o7,ifs,0⟩::gs) sc o6 0 E)
  (c:X.N[i]? =some x:=by rfl)(d:X.env.scope.names.lookup x=some .local:=by rfl)
  (b:swapsWith (.ListComp oS (⟨tg,o7,ifs,0⟩::gs) sc o6) (some (.Name x P)) a.line X.env=pure true:=by rfl)
  (j:∀g',gs[0]? =some g'->g'.is_async=0:=by intro _ h;cases h<;>rfl)
  (e:∀x,foldedSetIterable o7 X.env x=pure x:=by intro _;rfl):yn X xr (.Assign [.Name x P] (.ListComp oS (⟨tg,o7,ifs,0⟩::gs) sc o6) a) (qA i (jP (qD q C r t M E))):=by
 simp only[zY]at*;exact PS.imp (L2.EN (g:=tG X.K t) (ti:=tT X.K jR M) (tm:=tE X.K E) l c d b f S p j u n e) λD o H h=>qD.read o H _ (jP.read o H _ (qA.read D o H h))
def Q0 (h:Zq X xr e m):yQ X xr e m:=by simp only[zY]at*;exact PW.pt h
def jK {g:W->W->Hx->R W}(h:gc X op g)(c:zy X xr a ma)(H:zy X xr b mb)(e:op≠.In:=by decide)(d:op≠.NotIn:=by decide):yQ X xr (.Compare a [op] [b] o6) (zm g ma mb):=by simp only[zY]at*;exact let ⟨r,f,a2,A⟩:=h.ex;eY f a2 A c H (h.mks b e d)
def h9 {o:CmpOp}{g l:W->W->Hx->R W}(h:gc X op g)(p:gc X o l)(e:zy X xr a ma)(d:zy X xr b mb)(H:zy X xr c mc)(n:lastMarks [op,o] [b,c]=false:=by with_unfolding_all rfl):
  yQ X xr (.Compare a [op,o] [b,c] o6) (gO g l ma mb mc):=by
 simp only[zY]at*;exact let ⟨r,q,a2,A⟩:=h.ex;let ⟨j,i,f,B⟩:=p.ex;BH q a2 A i f B e d H n
def wG (d:yQ X xr a ma):yQ X xr (.UnaryOp .Not a o6) (ym ma):=by
 simp only[zY]at*;exact PT.imp (cQ d) λn H Q ⟨j,A,o,S,r,h⟩=>by
   refine tT.go S r (zV.mp h) λw p g=>?_;cases w with|bl k=>obtain⟨b,e,q⟩:=g;cases e;exact⟨k,rfl,λc i l f=>q c i l f⟩|non=>cases g|int _=>cases g|str _=>cases g|tup _=>cases g|ref _=>cases g|clo _ _ _=>cases g|xc _=>cases g|fn _=>cases g
def kh (h:zy X xr e m)(b:∀a,isTrue e X.env a=(do let v <- a;standAt e.pos;holding [v] (truthy v)):=by intro _;rfl):yQ X xr e m:=by simp only[zY]at*;exact PT.imp (cM h b) λc H Q h=>h.toM
def wY:Zi X [] (zT (.bl true)):=by
 simp only[zY]at*;exactλp s c H Q I ⟨a,A,d,S,r,h⟩=>BQ p s c H Q I (by obtain⟨b,e,q⟩:=h;cases e;exact q a H .refl S)
def Nl (h:yQ X jR c mc):Zi X [c] mc:=by simp only[zY]at*;exact C9 h
def Tc {r:bW}(g:yQ X xr a ma)(f:Zq X xr (.BoolOp .And (b::r) o6) mb):Zq X xr (.BoolOp .And (a::b::r) o6) (kP ma mb):=by
 simp only[zY]at*;exact PW.imp (pw_and g f) λp H Q ⟨o,A,t,S,j,h⟩=>by
   refine tT.go S j (zV.mp h) λw u i=>?_;cases w with
   |bl k=>
    refine⟨k,rfl,λc n l d=>?_⟩;cases k with|true=>rw[ai rfl];exact tT.mono d l j i|false=>rw[aj aH];obtain⟨b,e,q⟩:=i;cases e;exact q c n l d
   |non=>cases i|int _=>cases i|str _=>cases i|tup _=>cases i|ref _=>cases i|clo _ _ _=>cases i|xc _=>cases i|fn _=>cases i
def UT (h:yQ X xr a ma):Zq X xr (.BoolOp .And [a] o6) ma:=by simp only[zY]at*;exact pw_and1 h
def Wl {r:bW}(g:yQ X xr a ma)(f:Zq X xr (.BoolOp .Or (b::r) o6) mb):Zq X xr (.BoolOp .Or (a::b::r) o6) (ZT ma mb):=by
 simp only[zY]at*;exact PW.imp (pw_or g f) λp H Q ⟨o,A,t,S,j,h⟩=>by
   refine tT.go S j (zV.mp h) λw u i=>?_;cases w with
   |bl k=>
    refine⟨k,rfl,λc n l d=>?_⟩;cases k with|false=>rw[aj aH];exact tT.mono d l j i|true=>rw[ai rfl];obtain⟨b,e,q⟩:=i;cases e;exact q c n l d
   |non=>cases i|int _=>cases i|str _=>cases i|tup _=>cases i|ref _=>cases i|clo _ _ _=>cases i|xc _=>cases i|fn _=>cases i
def K6 (h:yQ X xr a ma):Zq X xr (.BoolOp .Or [a] o6) ma:=by simp only[zY]at*;exact pw_or1 h
def Rv {w:World}{K:Frag}{v:Stmt}{ps:bU}{k:Nat}{m:Ex}(F:kS K x x v f fd)(T:mg x=some (.ref f))(S:k9 N ps (qc v))
  (i:∀(kV D M:Value)(X:b9)(c ct:Value)(U:bQ),U.length=ps.length->bindArgs (fnOf x x (Zd v) (jO v) (qc v) .none kV D M X c ct) ⟨U,[]⟩=pure (ps.zip U))
  (a:∀(c:Value)(A:Around)(t:bZ)(s:Shared)(H:Hp)(E:XK),jb k (A.deeper (envOfC x (qc v) s.heap.objs.size f c))->yy (yU kE P w K mg base N x (qc v) f c A t s H E).nox jR (jO v) m):
  qK P w K mg base (k+1) x ps.length (qo N.length m):=by
 simp only[zY]at*;refine⟨f,fd,ps,?_,T,F.kp,F.binds i⟩;refine F.ok S (λL H Q E h=>h.len) λc A t s H L Q E g ⟨q,C,J,B,n,r,h⟩=>⟨_,a c A t s H E g,?_⟩;refine⟨C,J,B.map some++List.replicate (N.length-B.length) none,n,RE.start r,?_⟩;have u:=zV.mp h;show R.post _ (FB K C H _) _;cases e:m (B.map some++List.replicate (N.length-B.length) none) J with
 |ok j Y=>
  rw[e]at u;cases j with|rt w=>exact u|nx I=>exactλb p d l o _=>u b p .non l o rfl|bk I=>exact u.elim|ct I=>exact u.elim
 |exc y Y=>
  rw[e]at u;exact u.elim
 |bad=>rw[e]at u;exact u.elim
def wW (t:zy X xr a ma)(J:zy X xr b mb)(j:ja b [] X:=by rfl)
  (e:attributeBase a "append" X.env (eval a X.env)=eval a X.env:=by rfl)
  (c:((backTo o8 (starEach [b] X.env)).all (λx=>!x.1)&&(backToKw o8 (keywordEach [] X.env)).all (λx=>x.1.isSome)
   && decide ([b].length+([]:b8).length+(if ([]:b8).isEmpty then 0 else 1)<30))=true:=by rfl)(h:(oR.endLine==o8.line)=true:=by rfl):
  zy X xr (.Call (.Attribute a "append" oR) [b] [] o8) (yu kg ma mb):=by
 simp only[zY]at*;exact X0 PySem.F.slot_list_append PySem.F.type_list_append Oq DQ (λD A H x y u v Q S i q p=>by
   unfold kg at p;cases u with
   |ref n=>
    dsimp only at p;cases e1:A[n]? with
    |none=>rw[e1]at p;exact p.elim|some o=>cases o with
     |lst B=>
      rw[e1]at p;dsimp only at p
      by_cases d:B.length<zX
      ·rw[ai d]at p
       obtain⟨l,E,rfl,I,C,r⟩:=S.lst i e1;refine⟨l,E,y,rfl,rfl,C,?_,?_⟩
       ·rw[<- r.length]
        have:sizeLine=16777216:=sizeLine_eq
        unfold zX at d;lia
       ·have L:Le X.K D H D (upd H l (.lst (E++[y]))):=Le.upd I (λM z=>by rw[C]at z;cases z) (λ_ _ z=>by rw[C]at z;cases z)
        obtain⟨g,f⟩:=S.write (o:=.lst B) (o':=.lst (B++[v])) e1 rfl rfl I ⟨_,jN,(r.mono L).append (.one (q.mono L))⟩;exact p _ _ _ g f rfl
      ·rw[aj d]at p;exact p.elim
     |_=>rw[e1]at p;exact p.elim
   |_=>exact p.elim) t J j e c h
def UR (c:X.mg "int"=none)(a:zy X xr e m)(h:Gl X "int":=by rfl)(d:ja e [] X:=by rfl):zy X xr (.Call (.Name "int" p) [e] [] o6) (g7 LO m):=by
 simp only[zY]at*;exact fK Cd (λw A=>by unfold LO;split;exact j5;exact j5;exact jc) (λb A H x u Q S q p=>by
   cases u with|int i=>obtain rfl:=q;exact .inl ⟨i,rfl,p b H _ .refl S rfl⟩|bl k=>obtain rfl:=q;exact .inr ⟨k,rfl,p b H _ .refl S rfl⟩|_=>exact p.elim) c (by rfl) a h (by decide) (by decide) d (by rfl)
def CU (e:X.calm=true)(B:X.mg "max"=none)(o:zy X xr a ma)(n:zy X xr b mb)(l:Gl X "max":=by rfl)(D:ja a [b] X:=by rfl)(C:ja b [] X:=by rfl)(h:we o6 [b] X:=by rfl):
  zy X xr (.Call (.Name "max" p) [a,b] [] o6) (zm SN ma mb):=by
 simp only[zY]at*;exact MY (DJ e) QE (λt A H x y u v Q S d c p=>by
   obtain⟨i,j,r,E,q⟩:=Qs (K:=X.K) (f:=λi j=>.int (if j > i then j else i)) (g:=λi j=>.int (if j > i then j else i)) (λ_ _ _ _=>rfl) t A H x y u v Q S d c p;subst r;subst E;exact⟨i,j,rfl,q⟩) B (by rfl) o n l (by decide) (by decide) D C h
def D2 (B:zy X xr a ma)(T:zy X xr b mb)(t:ja b [] X:=by rfl)
  (e:attributeBase a "pop" X.env (eval a X.env)=eval a X.env:=by rfl)
  (c:((backTo o8 (starEach [b] X.env)).all (λx=>!x.1)&&(backToKw o8 (keywordEach [] X.env)).all (λx=>x.1.isSome)
   && decide ([b].length+([]:b8).length+(if ([]:b8).isEmpty then 0 else 1)<30))=true:=by rfl)(h:(oR.endLine==o8.line)=true:=by rfl):
  zy X xr (.Call (.Attribute a "pop" oR) [b] [] o8) (yu Z8 ma mb):=by
 simp only[zY]at*;exact X0 PySem.F.slot_list_pop PySem.F.type_list_pop Bx B7 (λL A H x y u v Q S j q p=>by
   unfold Z8 at p;cases u with
   |ref n=>cases v with
    |int i=>
     obtain rfl:=q;dsimp only at p;cases e1:A[n]? with
     |none=>rw[e1]at p;exact p.elim|some o=>cases o with
      |lst I=>
       rw[e1]at p;dsimp only at p
       by_cases d:jG i=true
       ·rw[ai d]at p
        obtain⟨D,C⟩:=Yw d;cases e2:seqIndex? i I.length with
        |none=>rw[e2]at p;exact p.elim|some k=>
         rw[e2]at p;dsimp only at p;cases E:I[k]? with
         |none=>rw[E]at p;exact p.elim|some w=>
          rw[E]at p;obtain⟨l,M,rfl,N,J,r⟩:=S.lst j e1;obtain⟨y,Y,U⟩:=r.get E;have P:Le X.K L H L (upd H l (.lst (M.eraseIdx k))):=Le.upd N (λZ z=>by rw[J]at z;cases z) (λ_ _ z=>by rw[J]at z;cases z)
          obtain⟨f,g⟩:=S.write (o:=.lst I) (o':=.lst (I.eraseIdx k)) e1 rfl rfl N ⟨_,jN,(r.erase k).mono P⟩;exact⟨l,M,i,k,y,rfl,rfl,J,by lia,by lia,by rw[<- r.length];exact e2,Y,p _ _ _ f g (U.mono f)⟩
       ·rw[aj d]at p;exact p.elim
      |_=>rw[e1]at p;exact p.elim
    |_=>exact p.elim
   |_=>cases v<;>exact p.elim) B T t e c h
def Xe (H:zy X xr a ma)(h:zy X xr b mb):zy X xr (.BinOp a .Pow b o6) (zm Kj ma mb):=by simp only[zY]at*;exact ZG dG WC (Wq NV λ_ _ _ _=>rfl) H h
def JD {x j}:zy X xr (.Constant (.str x) j o6) (zT (.str x)):=by simp only[zY]at*;exact PE.imp cK λb H Q ⟨a,A,c,S,r,h⟩=>h a H _ .refl S rfl
def NK (H:zy X xr a ma)(h:zy X xr b mb):zy X xr (.BinOp a .BitXor b o6) (zm fk ma mb):=by simp only[zY]at*;exact ZG dM QE (Qs λ_ _ _ _=>rfl) H h
def G9 {q:jW}(u:X.mg "list"=none)(d:gr X xr e q)(g:Gl X "list":=by rfl)(j:ja e [] X:=by rfl):
  zy X xr (.Call (.Name "list" p) [e] [] o6) (jP q):=by
 simp only[zY]at*;exact PE.imp (KU FG g u (by rfl) (jw d yg j) (by decide) (by decide) j (by rfl)) λB H Q ⟨n,A,o,S,t,h⟩=>by refine⟨n,A,o,S,t,qy (zV.mp h) (λC E v b D a y L i z r=>?_) λ_ _ z=>z⟩;refine⟨a,y,rfl,z,λl c=>?_⟩;obtain⟨x,a2,f⟩:=Q6 i c r;exact v _ _ _ (L.trans x) a2 f
def Wb {o i:Expr}{M c:Ev}(f:zy X xr e m)(H:zy X xr o M)(a:zy X xr i c)
  (h:swapsWithSole [.Subscript o i oQ] e o6.line X.env=pure false:=by rfl)(d:swappedStores [.Subscript o i oQ] e X.env=pure none:=by rfl)
  (g:(assignEach [.Subscript o i oQ] X.env).map (·.2)=[assign (.Subscript o i oQ) X.env]:=by rfl)
  (b:∀v,assign (.Subscript o i oQ) X.env v=(do
   let ov <- holding [v] (eval o X.env)
   let iv <- holding [v,ov] (eval i X.env)
   standAt oQ
   holding [v,ov,iv] (setItem ov iv v)
   release [v,ov,iv] []):=by intro _;rfl):yn X xr (.Assign [.Subscript o i oQ] e o6) (Q9 wQ m M c):=by
 simp only[zY]at*;exact BP set_list Md N0 f H a h d g b
def DM (f:Nat)(C:PassesOwn (model X.prog X.w) X.A X.env X.xe)(E:yQ X xr c mc)(I:yy X xr body m1):yn X xr (.While c body [] o6) (fc f mc m1):=by
 simp only[zY]at*;exact PS.imp (BC C E I) λD σ H ⟨Z,A,ρ,S,re,h⟩=>by
   refine⟨λf i e=>∃a Y d,Le X.K Z H a e/\zL X.K a Y e/\RE X.K a e d i/\(QI mc m1 f d Y).post (FB X.K a e D) (EB X.K a e xr),⟨f,Z,A,ρ,.refl,S,re,h⟩,?_⟩
   rintro f v U ⟨a,Y,d,x,M,o,h2⟩
   cases f with
   |zero=>exact h2.elim|succ f=>
    unfold QI at h2;refine tT.go M o (zV.mp h2) λw P g=>?_;cases w with
    |bl k=>
     refine⟨k,rfl,λq N l y=>?_⟩;cases k with
     |true=>
      rw[ai rfl];refine⟨λi e=>∃a Y d,Le X.K Z H a e/\zL X.K a Y e/\RE X.K a e d i/\(QI mc m1 f d Y).post (FB X.K a e D) (EB X.K a e xr),λi e z=>⟨f,bx _,z⟩,?_⟩;refine⟨q,P,d,y,o.mono l,qy (zV.mp g) (λJ B u=>?_) λ_ _ z=>z.mono l⟩;cases J with|nx j=>exactλb t n L p r=>⟨b,B,j,(x.trans l).trans L,p,r,qy u (λ_ _ z=>z.mono (l.trans L)) λ_ _ z=>z.mono (l.trans L)⟩|ct j=>exactλb t n L p r=>⟨b,B,j,(x.trans l).trans L,p,r,qy u (λ_ _ z=>z.mono (l.trans L)) λ_ _ z=>z.mono (l.trans L)⟩|bk j=>exactλb t n L p r=>u b t n (l.trans L) p r|rt T=>exactλb t v4 L p Q=>u b t v4 (l.trans L) p Q
     |false=>
      rw[aj aH];exact g q N v l y (o.mono l)
    |non=>cases g|int _=>cases g|str _=>cases g|tup _=>cases g|ref _=>cases g|clo _ _ _=>cases g|xc _=>cases g|fn _=>cases g
end
end Mi
variable {mr:Mi.Ea}{mi:Mi.Ei}{em:Mi.Em}{ρ:Mi.En}{me:Mi.Ev}{qt qv:Mi.Fn}{A A1 B:Mi.Hx}{ws:List Mi.W}{tw:Mi.Tg}{g:Mi.W->Mi.W->Mi.Hx->Mi.R Mi.W}{xr:Mi.XR}{q:Mi.jW}{j:Mi.jt}
set_option maxHeartbeats 4000000
namespace Mi
open PySem L2
section
variable {ρ1:En}{A2:Hx}{w x y:W}{m ma mb mc:Ev}{m1 m2:Ex}{f:Fn}
def zi (h:ρ[i]? =some (some w)):zU i ρ A=.ok w A:=by unfold zU;rw[h]
def zN:zT w ρ A=.ok w A:=rfl
def zE (H:ma ρ A=.ok x A1)(h:mb ρ A1=.ok y A2):zm g ma mb ρ A=g x y A2:=by unfold zm;rw[H,zJ,h,zJ]
def ia {g:W->Hx->R W}(h:ma ρ A=.ok x A1):g7 g ma ρ A=g x A1:=by unfold g7;rw[h,zJ]
def yM {k:Bool}(h:ma ρ A=.ok (.bl k) A1):ym ma ρ A=.ok (.bl (!k)) A1:=by unfold ym;rw[h,zJ]
def Z7 (h:ma ρ A=.ok (.bl true) A1):kP ma mb ρ A=mb ρ A1:=by unfold kP;rw[h,zJ]
def Qv (h:ma ρ A=.ok (.bl false) A1):kP ma mb ρ A=.ok (.bl false) A1:=by unfold kP;rw[h,zJ]
def Lb (h:ma ρ A=.ok (.bl true) A1):ZT ma mb ρ A=.ok (.bl true) A1:=by unfold ZT;rw[h,zJ]
def Va (h:ma ρ A=.ok (.bl false) A1):ZT ma mb ρ A=mb ρ A1:=by unfold ZT;rw[h,zJ]
def zM {a:Ea}(h:a ρ A=.ok ws A1):zO f a ρ A=f ws A1:=by unfold zO;rw[h,zJ]
def zF:zw ρ A=.ok [] A:=rfl
def zr {r:Ea}(H:ma ρ A=.ok x A1)(h:r ρ A1=.ok ws A2):zj ma r ρ A=.ok (x::ws) A2:=by unfold zj;rw[H,zJ,h,zJ]
def kZ {a:Ea}(h:a ρ A=.ok ws A1):qP a ρ A=.ok (.tup ws) A1:=by unfold qP;rw[h,zJ]
def jB {a:Ea}(h:a ρ A=.ok ws A1):qO a ρ A=.ok (.ref A1.length) (A1++[.lst ws]):=by unfold qO;rw[h,zJ]
def zA (h:m1 ρ A=.ok (.nx ρ1) A1):zG m1 m2 ρ A=m2 ρ1 A1:=by unfold zG;rw[h,zJ]
def qh (h:m1 ρ A=.ok (.rt w) A1):zG m1 m2 ρ A=.ok (.rt w) A1:=by unfold zG;rw[h,zJ]
def qx:zS ρ A=.ok (.nx ρ) A:=rfl
def qj (h:m ρ A=.ok w A1):qA i m ρ A=.ok (.nx (ρ.set i (some w))) A1:=by unfold qA;rw[h,zJ]
def kj (h:m ρ A=.ok w A1):wg m ρ A=.ok (.nx ρ) A1:=by unfold wg;rw[h,zJ]
def qH (h:m ρ A=.ok w A1):gm m ρ A=.ok (.rt w) A1:=by unfold gm;rw[h,zJ]
def yC (h:mc ρ A=.ok (.bl true) A1):jk mc m1 m2 ρ A=m1 ρ A1:=by unfold jk;rw[h,zJ]
def jT (h:mc ρ A=.ok (.bl false) A1):jk mc m1 m2 ρ A=m2 ρ A1:=by unfold jk;rw[h,zJ]
def jC (h:mi ρ A=.ok j A1):jM mi tw m1 ρ A=yb j (turn tw m1) j.len 0 ρ A1:=by unfold jM;rw[h,zJ]
def jY (h:tw w ρ=some ρ1):turn tw m1 w ρ A=m1 ρ1 A:=by unfold turn;rw[h]
def UD {S:W->Ex}(h:j.at_ A i=some none):yb j S n i ρ A=.ok (.nx ρ) A:=by
 cases n with|zero=>unfold yb;rw[h]|succ n=>unfold yb;rw[h]
def Xa {S:W->Ex}(h:j.at_ A i=some (some w))(H:S w ρ A=.ok (.nx ρ1) A1):yb j S (n+1) i ρ A=yb j S n (i+1) ρ1 A1:=by rw[yb,h];dsimp only;rw[H,zJ]
def yS {k:Int}(h:m ρ A=.ok (.int k) A1)(H:jG k=true):jU m ρ A=.ok (jE 0 k.toNat) A1:=by unfold jU;rw[h,zJ];dsimp only;rw[ai H]
def yh {l:Int}{k:Nat}(h:i<k):(jE l k).at_ A i=some (some (.int (l+i))):=by unfold jE;dsimp only;rw[ai h]
def yf {l:Int}{k:Nat}(h:¬i<k):(jE l k).at_ A i=some none:=by unfold jE;dsimp only;rw[aj h]
def qM (h:m1 (ws.map some++List.replicate (n-ws.length) none) A=.ok (.rt w) A1):qo n m1 ws A=.ok w A1:=by unfold qo;rw[h];rfl
def gI {w:W}(n:qR ws=true)(H:w.nr=true)(h:f ws []=.ok w A1):iso f ws A=.ok w A:=by
 unfold iso;rw[ai n,h];cases w with|ref k=>cases H|_=>dsimp only;rw[ai H]
end
end Mi
set_option maxHeartbeats 4000000
namespace Mi
open PySem L2
def Bz {p:Ev}{c:En}{N:Nat}{f g:Nat->W}{keep:Nat->Bool}(t:∀i,i<N->j.at_ A i=some (some (f i)))(d:j.at_ A N=some none)
  (b:∀i,i<N->p (some (f i)::c) A=.ok (.bl (keep i)) A)(q:∀i,i<N->keep i=true->me (some (f i)::c) A=.ok (g i) A):
  ∀(n i:Nat)(x:Option W)(o:List W),i+n=N->o.length+n<=zX->∃y,qZ j (zQ 0) p (qw me) n i (x::c) o A=.ok (y::c,o++((List.range' i n).filter keep).map g) A:=by
 intro n
 induction n with
 |zero=>
  intro i x o h _
  have:i=N:=by lia
  subst this;refine⟨x,?_⟩;unfold qZ;rw[d];simp
 |succ n I=>
  intro i x o h l;have H:i<N:=by lia
  rw[qZ,t i H];dsimp only[zQ,List.set];rw[b i H,zJ];rw[range'_succ];cases a:keep i with
  |true=>
   dsimp only;obtain⟨y,e⟩:=I (i+1) (some (f i)) (o++[g i]) (by lia) (by rw[aw,aX];lia)
   refine⟨y,?_⟩;have E:qw me (some (f i)::c) o A=.ok (some (f i)::c,o++[g i]) A:=by unfold qw;rw[q i H a,zJ,ai (by lia)]
   rw[E,zJ];dsimp only;rw[e,List.filter_cons_of_pos a,aR,aP]
   rfl
  |false=>
   dsimp only;obtain⟨y,e⟩:=I (i+1) (some (f i)) o (by lia) (by lia)
   exact⟨y,by rw[e,List.filter_cons_of_neg (by rw[a];exact aH)]⟩
def Oe {ifs:Ev}{N:Nat}{item g:Nat->W}{keep:Nat->Bool}(f:mi ρ A=.ok j A)(a:j.len=N)(d:N<=zX)
  (H:∀i,i<N->j.at_ A i=some (some (item i)))(h:j.at_ A N=some none)(b:∀i,i<N->ifs (some (item i)::cap.map λi=>(ρ[i]?).join) A=.ok (.bl (keep i)) A)
  (l:∀i,i<N->keep i=true->me (some (item i)::cap.map λi=>(ρ[i]?).join) A=.ok (g i) A):
  qD 1 cap mi (zQ 0) ifs (qw me) ρ A=.ok (((List.range N).filter keep).map g) A:=by
 obtain⟨y,e⟩:=Bz H h b l N 0 none [] (zero_add N) (by simpa using d)
 unfold qD;rw[f,zJ,a];have c:QC 1 cap ρ=none::cap.map λi=>(ρ[i]?).join:=rfl;rw[c,e,bK,<- range_eq_range']
 rfl
def gB {N:Nat}{item g:Nat->W}(d:mi ρ A=.ok j A)(a:j.len=N)(c:N<=zX)
  (t:∀i,i<N->j.at_ A i=some (some (item i)))(H:j.at_ A N=some none)(e:∀i,i<N->me (some (item i)::cap.map λi=>(ρ[i]?).join) A=.ok (g i) A):
  qD 1 cap mi (zQ 0) (zT (.bl true)) (qw me) ρ A=.ok ((List.range N).map g) A:=by
 have h:=Oe (ifs:=zT (.bl true)) (keep:=λ_=>true) d a c t H (λ_ _=>rfl) λi b _=>e i b;have f:(List.range N).filter (λ_=>true)=List.range N:=List.filter_eq_self.mpr λ_ _=>rfl;rw[f]at h;exact h
def j0 {g:List W->Hx->R W}(h:q ρ A=.ok ws A1):mQ g q ρ A=g ws A1:=by unfold mQ;rw[h,zJ]
def kf (h:q ρ A=.ok ws A1):jP q ρ A=.ok (.ref A1.length) (A1++[.lst ws]):=by unfold jP;rw[h,zJ]
def yL {m:Ev}{w:W}(h:m ρ A=.ok w A1)(H:zW w A1=some ws):qa m ρ A=.ok ws A1:=by unfold qa;rw[h,zJ,H]
open PySem PySem.Spec PyProof.Rows L2
inductive zfv (H:Hp)(h g:Heap)(e:Addr)(vs:Array Value):Prop
 |mk (T:Addr) (oT:Obj) (ts:Array Value) (h1:vs[1]? =some (.ref T)) (ne:T≠e) (ng:g.get? T=none) (nH:H T=none) (hT:h.get? T=some oT) (hd:oT.data=.fields ts) (h3:ts[3]? =some .none)
inductive gQ (H:Hp)(h g:Heap)(e:Addr)(C:Value):Prop
 |mk (ng:g.get? e=none) (nH:H e=none) (oe:Obj) (vs:Array Value) (a0:Value) (he:h.get? e=some oe) (hc:oe.cls=C) (hd:oe.data=.fields vs) (h0:vs[0]? =some a0) (h1:vs[1]? =some .none∨zfv H h g e vs)
inductive Tr (h:Heap)(e:Addr):Prop
 |mk (oe:Obj) (vs:Array Value) (T:Addr) (he:h.get? e=some oe) (hd:oe.data=.fields vs) (h1:vs[1]? =some (.ref T))
section
variable {A:Around}{s:Shared}{outer:bZ}{L e:Addr}{C:Value}{g:Heap}
theorem frames_at {B:Heap}:∀{l:bZ},s.heap.FunFrames base l->(∀b∈qL l,B.get? b=none)->s.heap.FunFrames B l
 |[],_,_=>trivial|e::r,⟨c,⟨L,o,hf,hn,a,hd⟩,H⟩,h=>⟨c,⟨L,o,hf,h L (by unfold qL;rw[ba,hf];exact aF ..),a,hd⟩,frames_at H λb d=>h b (by unfold qL;rw[ba,hf];exact az _ d)⟩
def My {Q:Unit->Shared->Prop}(B:A.frames=some (env::outer))(hf:env.frame=some L)(J:s.heap.FunFrames base (env::outer))(x:gQ H s.heap g e C)
  (tr:∀b u,H b=some u->∃o,s.heap.get? b=some o)(th:∀b o,g.get? b=some o->∃o',s.heap.get? b=some o')
  (hQ:∀h',(∀b o,s.heap.get? b=some o->b∉qL (env::outer)->((∃o',g.get? b=some o')∨∃u,H b=some u)->h'.get? b=some o)->(∀b o,s.heap.get? b=some o->b∈qL (env::outer)->∃sl,h'.get? b=some { o with slots:=sl })->
   gQ H h' g e C->Tr h' e->Q () { s with heap:=h' }):wpAny M A (leaving env (.ref e)) Q E s:=by
 obtain⟨N,U,oe,vs,a0,he,hc,hd,h0,h1⟩:=x;have fin:∀(d:bR),(∀b∈qL (env::outer),b∈d)->(∀b∈d,b∉qL (env::outer)->g.get? b=none/\H b=none)->∀h',Heap.LeftW (hideAll s.heap d) (env::outer) e C a0 s.heap h'->Q () { s with heap:=h' }:=by
  intro d hi1 y h' ⟨st,ff,r,us⟩;refine hQ h' (λb o h nb hx=>?_) (λb o h mb=>?_) ?_ (by obtain⟨i,v,T,I,t,j,_,l,p,_⟩:=r;exact⟨i,v,T,j,l,p⟩)
  ·refine st b o (bG d h λhm=>?_)
   obtain⟨z1,z2⟩:=y b hm nb;rcases hx with ⟨o',q⟩|⟨u,q⟩
   ·rw[z1]at q;cases q
   ·rw[z2]at q;cases q
  ·obtain⟨_,o',a,f⟩:=J.mem mb
   rw[h]at a;cases a;exact us b o h f
  ·obtain⟨i,v,T,I,t,j,⟨P,Y⟩,l,p,D,n,hT,c,X⟩:=r
   have nT:T∉qL (env::outer):=λhm=>by obtain⟨_,o',a,f⟩:=J.mem hm;obtain⟨sl,z⟩:=us T o' a f;rw[hT]at z;cases z;exact f t c
   have both:g.get? T=none/\H T=none:=by
    cases q:s.heap.get? T with
    |some o=>
     by_cases hm:T∈d
     ·exact y T hm nT
     ·rw[bG d q hm]at D;cases D
    |none=>
     constructor
     ·cases z:g.get? T with|none=>rfl|some o=>obtain⟨o',Z⟩:=th T o z;rw[q]at Z;cases Z
     ·cases z:H T with|none=>rfl|some u=>obtain⟨o',Z⟩:=tr T u z;rw[q]at Z;cases Z
   exact⟨N,U,i,v,a0,j,P,l,Y,.inr ⟨T,I,t,p,n,both.1,both.2,hT,c,X⟩⟩
 have stay:∀d:bR,(hideAll s.heap d).StaysIn s.heap:=λd b o q=>of_hideAll d q;rcases h1 with h1|⟨T,I,t,h1,n,K,S,hT,c,X⟩
 ·have hn:∀b∈e::qL (env::outer),(hideAll s.heap (e::qL (env::outer))).get? b=none:=λb h=>hideAll_none _ h
  refine wpAny_leaving_firstW (base:=hideAll s.heap (e::qL (env::outer))) B (frames_at J λb h=>hn b (az _ h)) hf he (stay _) (hn e (aF ..)) hd h1 h0 ?_;rw[hc];refine fin _ (λb h=>az _ h) λb h nb=>?_;rcases cn.mp h with rfl|h
  ·exact⟨N,U⟩
  ·exact absurd h nb
 ·have hn:∀b∈e::T::qL (env::outer),(hideAll s.heap (e::T::qL (env::outer))).get? b=none:=λb h=>hideAll_none _ h
  refine wpAny_leaving_nextW (base:=hideAll s.heap (e::T::qL (env::outer))) B (frames_at J λb h=>hn b (az _ (az _ h))) hf
   ⟨oe,vs,T,I,t,he,⟨hc,h0⟩,hd,h1,hn T (az _ (aF ..)),n,hT,c,X⟩ (stay _) (hn e (aF ..)) ?_
  refine fin _ (λb h=>az _ (az _ h)) λb h nb=>?_;rcases cn.mp h with rfl|h
  ·exact⟨N,U⟩
  ·rcases cn.mp h with rfl|h
   ·exact⟨K,S⟩
   ·exact absurd h nb
end
inductive MX (P:Program)(w:World)(outer:bZ)(H:Hp)(s:Shared)(E:XK)(e:Value)(s':Shared):Prop
 |mk (ea C:Addr) (H':Hp) (he:e=.ref ea) (os:s'.os=s.os) (b:AllBare s'.gens) (un:Un (qL outer) [] H H' s.heap s'.heap) (hk:jd P w H' s'.heap) (ly:gQ H' s'.heap s.heap ea (.ref C)) (tr:Tr s'.heap ea) (q:E (.ref C) none H')
def wD (P:Program)(w:World):Zy:=λo H s E e S=>MX P w o H s E e S
def _root_.L2.qV.obj {w:World}(x:qV P w H h a o):∃ob,h.get? a=some ob:=by
 cases o with|lst X=>obtain⟨_,_,_,_,e⟩:=x;exact⟨_,e⟩|tup X=>obtain⟨_,_,_,o,e,_⟩:=x;exact⟨o,e⟩|dK K=>obtain⟨_,_,_,_,o,_,_,e,_⟩:=x;exact⟨o,e⟩|dT K=>obtain⟨_,_,_,_,o,_,_,e,_⟩:=x;exact⟨o,e⟩|set S n=>obtain⟨o,_,_,_,e,_⟩:=x;exact⟨o,e⟩|ins C d fs=>obtain⟨_,_,_,e,_⟩:=x;exact⟨_,e⟩|own y=>exact x|xd fs=>obtain⟨_,⟨o,_,_,e,_⟩,_⟩:=x;exact⟨o,e⟩|rng l i=>obtain⟨_,_,_,e⟩:=x;exact⟨_,e⟩|frz ob u=>exact⟨ob,x.1⟩|tbl ps=>exact⟨_,(show h.get? a=some _ from x)⟩|met f y=>exact⟨_,(show h.get? a=some _ from x)⟩|ext b=>exact x.2.1
def DT {w:World}{K:Frag}{D:Value}{A:Around}{B:bZ}{s:Shared}{E:XK}
  {h:Hp}{a C:Addr}(I:Inv (yU (wD P w) P w K mg base N qual scope f D A B s H E) o5 σ h s')(x:gQ h s'.heap s.heap a (.ref C))(y:E (.ref C) none h):
  (yU (wD P w) P w K mg base N qual scope f D A B s H E).xe (.ref a) s':=by
 have bs:Un (qL B) [] H h s.heap s'.heap:=I.base;have T:∀b∈qL (envOfC qual scope s.heap.objs.size f D::B),h b=none:=I.stkFree;have p:s.heap.get? s.heap.objs.size=none:=Heap.get?_none_of_le (aq _);have g:(envOfC qual scope s.heap.objs.size f D).frame=some s.heap.objs.size:=rfl;have mem:∀b,b∈qL (envOfC qual scope s.heap.objs.size f D::B)↔b=s.heap.objs.size∨b∈qL B:=λb=>by unfold qL;rw[ba,g];exact mem_cons
 show wpAny (model P w) (A.deeper (envOfC qual scope s.heap.objs.size f D)) (leaving (envOfC qual scope s.heap.objs.size f D) (.ref a)) _ _ s';refine My (base:=base) (L:=s.heap.objs.size) I.ok.frames rfl I.stack x (λb u e=>(I.hok b u e).obj) (λb o e=>bs.there b o e (by simp)) λh' M Z X t=>?_
 have r:∀b u,h b=some u->b∉qL (envOfC qual scope s.heap.objs.size f D::B):=λb u e J=>by rw[T b J]at e;cases e
 refine⟨a,C,h,rfl,I.os,I.bare,⟨λb o e n nb _=>?_,λb o e n Y _=>?_,λb o e n d=>bs.free b o e n d,λb o e d=>?_,bs.tups,bs.frzs,bs.tbls⟩,λb u e=>?_,X,t,y⟩
 ·have i:b≠s.heap.objs.size:=λz=>by rw[z,p]at e;cases e
  exact M b o (bs.keep b o e n nb (by simp)) (λJ=>(mem b).mp J |>.elim i nb) (.inl ⟨o,e⟩)
 ·obtain⟨l,q⟩:=bs.slot b o e n Y (by simp)
  obtain⟨S,Q⟩:=Z b _ q ((mem b).mpr (.inr Y));exact⟨S,Q⟩
 ·obtain⟨U,q⟩:=bs.there b o e d
  by_cases J:b∈qL (envOfC qual scope s.heap.objs.size f D::B)
  ·obtain⟨l,z⟩:=Z b U q J;exact⟨_,z⟩
  ·exact⟨U,M b U q J (.inl ⟨o,e⟩)⟩
 ·refine(I.hok b u e).stay (λc v j q=>?_) (λ_ q=>q) λ_ _ q=>q
  rcases j with z|z
  ·rw[z]at q ⊢;exact M b v q (r b u e) (.inr ⟨u,e⟩)
  ·exact M c v q (r c _ z) (.inr ⟨_,z⟩)
def Ot {s:Shared}{E:XK}{e:Value}(I:Inv X o5 σ H s)(h:wD X.prog X.w X.stack H s E e s')(g:Heap)(r:∀b o,g.get? b=some o->∃o',s.heap.get? b=some o'):
  ∃a C c,e=.ref a/\Inv X o5 σ c s'/\gQ c s'.heap g a (.ref C)/\Tr s'.heap a/\E (.ref C) none c:=by
 obtain⟨a,C,c,rfl,os,U,un,Y,x,tr,u⟩:=h;obtain⟨p,v,d,t,f⟩:=s';obtain rfl:f=s.os:=os;refine⟨a,C,c,rfl,I.call (h':=p) (g':=v) (d':=d) (t':=t) (ch:=[]) un Y U (λb z=>absurd z (by simp)),?_,tr,u⟩
 have up:∀b,s.heap.get? b=none->g.get? b=none:=λb n=>by
  cases z:g.get? b with|none=>rfl|some o=>obtain⟨o',q⟩:=r b o z;rw[n]at q;cases q
 obtain⟨a1,a2,j,Z,S,Q,P,N,M,B⟩:=x;refine⟨up a a1,a2,j,Z,S,Q,P,N,M,?_⟩;rcases B with B|⟨T,l,i,c1,L,K,J,D,A,y⟩
 ·exact .inl B
 ·exact .inr ⟨T,l,i,c1,L,up T K,J,D,A,y⟩
def yW (K:Frag)(E:XK):XR:=λx H=>∀C:Addr,ko K x (.ref C)->E (.ref C) none H
inductive VA (K:Frag)(n:Nat)(f:Fn)(vs:List V)(H:Hp)(Q:VK)(E:XK):Prop
 |mk (len:vs.length=n) (φ:bR) (A:Hx) (ws:List W) (S:zL K φ A H) (r:zC K φ H ws vs) (q:(f ws A).post (PB K φ H Q) (EB K φ H (yW K E)))
def VA.len {K:Frag}{f:Fn}{Q:VK}{E:XK}(h:VA K n f vs H Q E):vs.length=n:=by cases h;assumption
inductive jn (P:Program)(w:World)(K:Frag)(mg:bY)(base:Heap)(k:Nat)(x:Str)(n:Nat)(f:Fn):Prop
 |mk (fa:Addr) (fd:FuncData) (ps:bU) (F:yi P w K mg base (wD P w) k fa fd ps (VA K n f)) (at_:mg x=some (.ref fa)) (kp:keepIn K (.ref fa)=true) (bi:Binds K fd ps [])
structure wy (X:Cx)(g:Heap)(xr:XR):Prop where
 th:∀o5 σ H s,Inv X o5 σ H s->∀b o,g.get? b=some o->∃o',s.heap.get? b=some o'
 out:∀o5 σ H s ea C x,Inv X o5 σ H s->gQ H s.heap g ea (.ref C)->ko X.K x (.ref C)->xr x H->X.xe (.ref ea) s
def ib {w:World}{K:Frag}{i:Value}{A:Around}{r:bZ}{s:Shared}{E:XK}:
  wy (yU (wD P w) P w K mg base N qual scope f i A r s H E) s.heap (yW K E) where
 th:=λp g h S I b o e=>(show Un (qL r) [] H h s.heap S.heap from I.base).there b o e (by simp)
 out:=λp g h S d C x I l c a=>DT I l (a C c)
section
variable {g:Heap}{c:Expr}
def RA (K:Frag)(X:XR):XK:=λc _ H=>∃x C,c=.ref C/\ko K x (.ref C)/\X x H
def wy.passes (x:wy X g xr):Passes (wD X.prog X.w) X (RA X.K xr):=λp j H s e S I h=>by obtain⟨b,C,d,rfl,i,l,_,nm,f,E,c,a⟩:=Ot I h g (x.th p j H s I);cases E;exact x.out p j d S b C nm i l c a
end
def wK (n:Nat)(m:Ex):Fn:=λa A=>(m (a.map some++List.replicate (n-a.length) none) A).bind λf b=>match f with|.rt w=>.ok w b|.nx _=>.ok .non b|_=>.bad
inductive Sz (C:Addr)(bmB:bQ)(oX:String)(h:Heap):Prop
 |mk (tl N nm q bs hdct sn sub ab col dd k0 k1 k2 k3 k5 mN:_) (obj:h.get? C=some (excClassObj nm q C N bs tl hdct sn sub ab col dd k0 k1 k2 k3 k5 oX)) (ns:h.Ns N mN) (init:mN "__init__"=none) (tail:OwnTail h bmB tl)
noncomputable def ic (d:Data):Option { c:ClassData // d=.cls c }:=match d with|.cls c=>some ⟨c,rfl⟩|_=>none
def ZK (K:Frag)(C:Addr)(b:bQ)(n:String):Bool:=(K.lookup C).any λo=>(ic o.data).any λc=>
 o.cls==.type "type" && c.1.mro==.ref C::c.1.mro.tail&&o.slots.toList==[o.slots.toList.getD 0 none,o.slots.toList.getD 1 none,o.slots.toList.getD 2 none,o.slots.toList.getD 3 none,some (.builtin n),o.slots.toList.getD 5 none]
  && c.1.hasDel==false&&PySem.W.tailIn K b c.1.mro.tail&&PySem.W.nsOkIn K c.1.ns&&nsIn K c.1.ns "__init__" == some none
def Sy {K:Frag}{C:Addr}{b:bQ}{n:String}(X:K.In h)(q:ZK K C b n=true):Sz C b n h:=by obtain⟨⟨o,r,t,⟨S⟩⟩,H,q⟩:=(Option.any_eq_true _ _).mp q;obtain⟨⟨⟨nm,bs,M,N,Q,p,j,sub,A,l,D⟩,i⟩,-,q⟩:=(Option.any_eq_true _ _).mp q;simp only[ak,aL]at q;obtain⟨⟨⟨⟨⟨⟨g,f⟩,d⟩,c⟩,a⟩,e⟩,E⟩:=q;cases i;cases g;cases c;exact⟨M.tail,N,nm,Q,bs,p,j,sub,A,l,r,_,_,_,_,_,_,X _ _ (by rw[H,f,d];rfl),.of_isNs (PySem.W.isNs_of_in X e),PySem.W.nsMap_none_of_in X e E,PySem.W.tail_of_in X a⟩
def Mv (x:Str)(M:Ea):Ex:=λa A=>(M a A).bind λ_ b=>.exc x b
section
variable {g:Heap}{es:bW}{np:Pos}{C:Addr}{B oX pe:String}{bmB:bQ}
def ie {s:Shared}{e:Addr}{a:bQ}(x:wy X g xr)(I:Inv X o5 σ H s)(m:Heap.MadeExcOf s.heap h' e (.ref C) a):
  Inv X o5 σ H { s with heap:=h' }/\gQ H h' g e (.ref C):=by
 have N:∀b,s.heap.get? b=none->H b=none:=λb z=>by
  cases q:H b with|none=>rfl|some u=>obtain⟨o,k⟩:=(I.hok b u q).obj;rw[z]at k;cases k
 have n:∀b,s.heap.get? b=none->g.get? b=none:=λb z=>by
  cases q:g.get? b with|none=>rfl|some o=>obtain⟨f,k⟩:=x.th o5 σ H s I b o q;rw[z]at k;cases k
 obtain⟨t,d,i,h⟩:=m.there;refine⟨I.call' (s':={ s with heap:=h' }) (ch:=[]) rfl ⟨λb o q _ _ _=>m.keeps b o q,λb o q _ _ _=>⟨o.slots,m.keeps b o q⟩,λb o q z _=>z,λb o q _=>⟨o,m.keeps b o q⟩,λ_ _ q=>q,λ_ _ _ q=>q,λb ps q=>⟨#[],by rw[Array.append_empty];exact q⟩⟩
  (λb u q=>(I.hok b u q).stay (λc v _ z=>m.keeps c v z) (λ_ z=>z) λ_ _ z=>z) I.bare (λb z=>absurd z (by simp)),?_⟩
 exact⟨n e m.new,N e m.new,_,_,_,d,rfl,rfl,rfl,.inl rfl⟩
def BA (o:wy X g xr)(f:ko X.K x (.ref C))(ex:ZK X.K C bmB oX=true)(FB:ExcBaseFacts B oX pe bmB)(M:SA X xr (e::es) mr)(v:Qe mr n)(hn:n<=sizeLine:=by decide)(J:Gl X x:=by rfl)(a:X.calm=true:=by rfl)
  (d:yA x:=by decide)(he:ja e es X:=by rfl)(l:we o8 es X:=by rfl):
  SS X xr (.Raise (some (.Call (.Name x np) (e::es) [] o8)) none o6) (Mv x mr):=by
 intro o5 s σ H D I ⟨φ,A,ρ,S,re,h⟩;have hm:X.mg x=some (.ref C):=mg_of I.mod.kin I.mod.glob f;obtain⟨t,N,nm,q,bs,hdct,sn,sub,ab,col,dd,k0,k1,k2,k3,k5,mN,U,P,c,T⟩:=Sy I.mod.kin ex;refine wpAny_Raise_call_subT (C:=C) (nm:=nm) (q:=q) (N:=N) (bs:=bs) (bm:=t) (hdct:=hdct) (sn:=sn) (sub:=sub) (ab:=ab) (col:=col) (dd:=dd) (k0:=k0) (k1:=k1) (k2:=k2) (k3:=k3) (k5:=k5)
  FB (mN:=mN) (T.hasType FB.hasBase) (I.ok.hd a) (by rw[he];show(false || (backTo o8 (starEach es X.env)).any (·.1))=false;rw[l];rfl) c (YR I J hm ⟨rfl,?_⟩ d)
 have h':=zV.mp h;have j:=M o8 o5 s σ H (λvs H1=>vs.length<=sizeLine/\xr x H1) I ⟨φ,A,ρ,S,re,?_⟩
 ·rw[he]at j ⊢
  refine Calls.evalArgs_plain (wpAny_mono j (λus s2 h2=>?_) λ_ _ y=>y);obtain⟨vs,H2,i,r,hlen,u⟩:=h2;refine⟨rfl,?_,i.bk _ _ U,P.keeps i.bk,T.keeps i.bk,λh3 Y m=>?_⟩
  ·rw[<- r.length];exact hlen
  ·obtain⟨I3,L⟩:=ie o i m
   exact o.out o5 σ H2 _ Y C x I3 L f u
 ·cases E:mr ρ A with
  |ok ws A1=>
   rw[E]at h';intro b H1 vs p Z Q;refine⟨?_,h' b H1 p Z⟩;rw[<- Q.length,v ρ A ws A1 E];exact hn
  |exc y A1=>rw[E]at h';exact h'|bad=>rw[E]at h';exact h'
end
noncomputable def mJ:List Ev->Str->Ev
 |[],acc=>λ_ A=>.ok (.str acc) A|m::ms,acc=>λa A=>(m a A).bind λw b=>match w with|.str y=>if (acc++y).length<=sizeLine then mJ ms (acc++y) a b else .bad|_=>.bad
section
variable {es:bW}{m:Ev}{ms:List Ev}
inductive SJ (X:Cx)(xr:XR):List Expr->List Ev->Prop where
 |nil:SJ X xr [] []
 |cons {e:Expr} {es:bW} {m:Ev} {ms:List Ev} (h:SE X xr e m) (r:SJ X xr es ms):SJ X xr (e::es) (m::ms)
end
section
variable {A:Around}{s:Shared}{e C:Addr}{oe:Obj}{bmB bmD:bQ}{oX oZ:String}{Q:Bool->Shared->Prop}
def Mh (h:Heap)(C D:Addr):Prop:=∃o c,h.get? C=some o/\o.data=.cls c/\c.mro.contains (.ref D)=true
def E6 (lc:Sz C bmB oX s.heap)(ld:Sz D bmD oZ s.heap)(j:bmD.contains (.type "BaseException")=true)(he:s.heap.get? e=some oe)(a:oe.cls=.ref C)(up:Mh s.heap C D)(x:Q true s):
  wpAny M A (excMatches (.ref e) (.ref D)) Q E s:=by
 obtain⟨h,g,d,t,os⟩:=s;obtain⟨n,N,nm,q,bs,hdct,sn,sub,ab,col,dd,k0,k1,k2,k3,k5,mN,l,_,_,_⟩:=lc;obtain⟨T,N2,u,K,I,c,r,S,J,p,y,Z,Y,X,U,P,v,o,_,_,T2⟩:=ld;obtain⟨L,cd,b,hd,hm⟩:=up;rw[l]at b;cases b;have H:(excClassObj nm q C N bs n hdct sn sub ab col dd k0 k1 k2 k3 k5 oX).data=.cls cd:=hd;unfold excClassObj at H;cases H;have B:(Value.ref D::T).contains (.type "BaseException")=true:=by rw[List.contains_cons,T2.hasType j,Bool.or_true]
 have i:(Value.ref C::n).contains (.ref D)=true:=hm;have f:=tc_notTuple;unfold excMatches
 repeat (first|(with_reducible refine wpAny_loadPart_at he ?_;rw[a])|with_reducible refine wpAny_loadPart_at o ?_|with_reducible refine wpAny_loadPart_at l ?_|(with_reducible refine wpAny_isSubtype_exc o ?_;rw[B])|(with_reducible refine wpAny_isSubtype_exc l ?_;rw[i])|wp_step)
 exact x
end
section
variable {H0:Hp}{s0 s:Shared}{ea C:Addr}
def landed {T:Addr}{a0:Value}(g:Inv X o5 σ H0 s0)(I:Inv X o5 σ H s)(x:gQ H s.heap s0.heap ea (.ref C))(nT:s0.heap.get? T=none)(hT:H T=none)
  (th:∀b o,s0.heap.get? b=some o->∃o',s.heap.get? b=some o')
  (fl:Heap.FlyingW (hideAll s.heap (ea::T::qL X.stack)) X.stack ea (.ref C) a0 h')(us:s.heap.UpToSlots h'):
  Inv X o5 σ H { s with heap:=h' }/\gQ H h' s0.heap ea (.ref C)/\Tr h' ea/\∀b o,s0.heap.get? b=some o->∃o',h'.get? b=some o':=by
 obtain⟨st,_,ff,oe,vs,t,oT,U,he,⟨B,h0⟩,hd,h1,l,D,E,A,h3⟩:=fl;have ng:s0.heap.get? ea=none:=by cases x;assumption
 have nH:H ea=none:=by cases x;assumption
 have kept:∀b o,s.heap.get? b=some o->b∉qL X.stack->b≠ea->b≠T->h'.get? b=some o:=λb o q n1 j N=>st b o (bG _ q λhm=>by
  rcases cn.mp hm with z|hm
  ·exact j z
  rcases cn.mp hm with z|hm
  ·exact N z
  ·exact n1 hm)
 have slot:∀b o,s.heap.get? b=some o->b∈qL X.stack->∃S,h'.get? b=some { o with slots:=S }:=λb o q hm=>by obtain⟨_,o',h,f⟩:=I.stack.mem hm;rw[q]at h;cases h;exact us b o q f
 have off:∀b u,H b=some u->b∉qL X.stack/\b≠ea/\b≠T:=λb u q=>⟨λhm=>(by rw[I.stkFree b hm]at q;cases q),λz=>(by rw[z,nH]at q;cases q),λz=>(by rw[z,hT]at q;cases q)⟩
 have ne:∀b o,s0.heap.get? b=some o->b≠ea/\b≠T:=λb o q=>⟨λz=>(by rw[z,ng]at q;cases q),λz=>(by rw[z,nT]at q;cases q)⟩
 have any:∀b o o',s0.heap.get? b=some o'->s.heap.get? b=some o->∃S,h'.get? b=some { o with slots:=S }:=λb o o' Q q=>by
  by_cases hm:b∈qL X.stack
  ·exact slot b o q hm
  ·exact⟨o.slots,kept b o q hm (ne b o' Q).1 (ne b o' Q).2⟩
 have cell:∀y c,X.env.cells.lookup y=some c->∀v,s.heap.IsCell c v->h'.IsCell c v:=λy c e v ⟨o,M,hd⟩=>by obtain⟨_,o0,d,_⟩:=g.cell y c e;obtain⟨S,z⟩:=any c o o0 d M;exact⟨_,z,hd⟩
 have inv:Inv X o5 σ H { s with heap:=h' }:=by
  refine⟨I.ok,I.os,I.bare,⟨λb o q n L nx=>?_,λb o q n hf nx=>?_,I.base.free,λb o q nx=>?_,I.base.tups,I.base.frzs,I.base.tbls⟩,?_,λy c e=>?_,I.free,I.freeC,λp hp=>?_,λb u q=>?_,I.len⟩
  ·have a:=I.base.keep b o q n L nx
   have Q:=g.base.keep b o q n L nx;refine kept b o a (λhm=>?_) (ne b o Q).1 (ne b o Q).2;rcases cn.mp (I.stkSub b hm) with z|z
   ·exact absurd (aK (aM q) I.ok.above) (by rw[z];exact aT _)
   ·exact L z
  ·obtain⟨S,a⟩:=I.base.slot b o q n hf nx
   obtain⟨sl0,Q⟩:=g.base.slot b o q n hf nx;obtain⟨J,z⟩:=any b _ _ Q a;exact⟨J,z⟩
  ·obtain⟨K,a⟩:=I.base.there b o q nx
   obtain⟨o0,Q⟩:=g.base.there b o q nx;obtain⟨S,z⟩:=any b K o0 Q a;exact⟨_,z⟩
  ·obtain⟨m,⟨o,es,ep,M,r⟩,k⟩:=I.loc
   obtain⟨_,⟨o0,_,_,d,_⟩,_⟩:=g.loc;obtain⟨S,z⟩:=any _ o o0 d M;refine⟨m,⟨_,es,ep,z,r⟩,λi y v e1 e2 e3=>?_⟩;obtain⟨u,ru,lk⟩:=k i y v e1 e2 e3;refine⟨u,ru,?_⟩;rcases lk with lk|⟨lk,c,ec,P⟩
   ·exact .inl lk
   ·exact .inr ⟨lk,c,ec,cell y c ec _ P⟩
  ·obtain⟨v,hv⟩:=I.cell y c e
   exact⟨v,cell y c e v hv⟩
  ·obtain⟨p1,p2,p3,Y,p5⟩:=I.pin p hp
   have Z:=(g.pin p hp).1;refine⟨kept _ _ p1 (λhm=>?_) (ne _ _ Z).1 (ne _ _ Z).2,p2,p3,Y,p5⟩;rcases cn.mp (I.stkSub _ hm) with z|z
   ·exact p3 z
   ·exact Y z
  ·refine(I.hok b u q).stay (λc v P z=>?_) (λ_ z=>z) λ_ _ z=>z
   rcases P with e|e
   ·obtain⟨n1,j,N⟩:=off b u q
    rw[e]at z ⊢;exact kept b v z n1 j N
   ·obtain⟨n1,j,N⟩:=off c _ e
    exact kept c v z n1 j N
 have both:s0.heap.get? t=none/\H t=none:=by
  cases q:s.heap.get? t with
  |some o=>
   by_cases hm:t∈ea::T::qL X.stack
   ·rcases cn.mp hm with z|hm
    ·exact absurd z D
    rcases cn.mp hm with z|hm
    ·rw[z];exact⟨nT,hT⟩
    ·obtain⟨S,z⟩:=slot t o q hm
     obtain⟨_,o',h,f⟩:=I.stack.mem hm;rw[q]at h;cases h;rw[E]at z;cases z;exact absurd A (f U)
   ·rw[bG _ q hm]at l;cases l
  |none=>
   constructor
   ·cases z:s0.heap.get? t with|none=>rfl|some o=>obtain⟨o',k⟩:=th t o z;rw[q]at k;cases k
   ·cases z:H t with|none=>rfl|some u=>obtain⟨o',k⟩:=(I.hok t u z).obj;rw[q]at k;cases k
 exact⟨inv,⟨ng,nH,oe,vs,a0,he,B,hd,h0,.inr ⟨t,oT,U,h1,D,both.1,both.2,E,A,h3⟩⟩,⟨oe,vs,t,he,hd,h1⟩,λb o q=>by obtain⟨K,a⟩:=th b o q;obtain⟨S,z⟩:=any b K o q a;exact⟨_,z⟩⟩
def flying (I:Inv X o5 σ H s)(x:gQ H s.heap s0.heap ea (.ref C))(tr:Tr s.heap ea):
  ∃T A,s0.heap.get? T=none/\H T=none/\Heap.FlyingW (hideAll s.heap (ea::T::qL X.stack)) X.stack ea (.ref C) A s.heap:=by
 obtain⟨u,y,l,L,A,J,p,K,M,D⟩:=x;obtain⟨j,v,B,h,a,c⟩:=tr;rw[J]at h;cases h;rw[K]at a;cases a;rcases D with D|⟨T,n,t,D,g,d,i,hT,e,r⟩
 ·rw[D]at c;cases c
 ·have E:∀b∈ea::T::qL X.stack,(hideAll s.heap (ea::T::qL X.stack)).get? b=none:=λb f=>hideAll_none _ f
  exact⟨T,A,d,i,λb o q=>of_hideAll _ q,E ea (aF ..),frames_at I.stack λb f=>E b (az _ (az _ f)),
   l,L,T,n,t,J,⟨p,M⟩,K,D,E T (az _ (aF ..)),g,hT,e,r⟩
end
noncomputable def WH (o:Obj):HO:=.frz o (.own 0)
noncomputable def J5 (K:Frag)(C D:Addr):Bool:=match K.lookup C with|some ⟨_,_,.cls c,_⟩=>c.mro.contains (.ref D)|_=>false
def ig {K:Frag}{C:Addr}(X:K.In h)(e:J5 K C D=true):Mh h C D:=by
 unfold J5 at e
 split at e
 ·rename_i H
  exact⟨_,_,X _ _ H,rfl,e⟩
 ·cases e
section
variable {H0:Hp}{s0 s:Shared}{ea C L:Addr}
def Y6 (i:Inv X o5 σ H0 s0)(I:Inv X o5 σ H s)(x:gQ H s.heap s0.heap ea (.ref C)):∃a,a.cls=.ref C/\H ea=none/\Inv X o5 σ (upd H ea (WH a)) s:=by
 obtain⟨j,d,a,J,A,D,l,_⟩:=x;refine⟨a,l,d,?_⟩;have t:∀b o,s0.heap.get? b=some o->b≠ea:=λb o q z=>by rw[z,j]at q;cases q
 have at_:∀b,b≠ea->upd H ea (WH a) b=H b:=λb n=>by unfold upd;exact aj n
 have N:∀b u,H b=some u->upd H ea (WH a) b=some u:=λb u q=>by rw[at_ b λz=>by rw[z,d]at q;cases q];exact q
 refine⟨I.ok,I.os,I.bare,⟨I.base.keep,I.base.slot,λb o q n nx=>?_,I.base.there,λb B q=>N _ _ (I.base.tups b B q),λb o u q=>N _ _ (I.base.frzs b o u q),λb ps q=>?_⟩,I.loc,I.cell,?_,λy c e=>?_,λp f=>?_,λb u q=>?_,I.len⟩
 ·obtain⟨r,Q⟩:=i.base.there b o q nx
  rw[at_ b (t b r Q)];exact I.base.free b o q n nx
 ·obtain⟨M,z⟩:=I.base.tbls b ps q
  exact⟨M,N _ _ z⟩
 ·obtain⟨m,⟨r,_,_,h,_⟩,_⟩:=i.loc
  rw[at_ _ (t _ r h)];exact I.free
 ·obtain⟨v,r,h,_⟩:=i.cell y c e
  rw[at_ _ (t _ r h)];exact I.freeC y c e
 ·obtain⟨g,P,E⟩:=I.pin p f
  refine⟨g,?_,E⟩;rw[at_ _ (t _ _ (i.pin p f).1)];exact P
 ·by_cases z:b=ea
  ·subst z
   have:u=WH a:=by unfold upd at q;rw[ai rfl]at q;exact(aE q).symm
   subst this;exact⟨D,⟨a,D⟩⟩
  ·rw[at_ b z]at q
   exact(I.hok b u q).stay (λ_ _ _ z=>z) (λc z=>N c _ z) λc B z=>N c _ z
def ih (X:Cx)(p:bS)(c:St)(S:Shared)(D:Addr)(k:Addr->Addr->Hp->Prop)(e:Value)(s:Shared):Prop:=
 ∃E C H B n,e=.ref E/\Inv X p c H s/\gQ H s.heap S.heap E (.ref C)/\Tr s.heap E/\(∀b o,S.heap.get? b=some o->∃d,s.heap.get? b=some d)/\Mi.ZK X.K C B n=true/\J5 X.K C D=true/\∀a,a.cls=.ref C->H E=none->k E C (upd H E (WH a))
def ij {l n:Str}{p:bQ}{oZ:String}{S:cb}{B:Stmt}{np hp:Pos}{Q:Flow->Shared->Prop}{k:Addr->Addr->Hp->Prop}
  (I0:Inv X o5 σ H0 s0)(t:X.stack=X.env::X.outer)(hL:X.env.frame=some L)(hD:ko X.K l (.ref D))(exD:Mi.ZK X.K D p oZ=true)(hbD:p.contains (.type "BaseException")=true)
  (hN:X.N.Nodup)(hi:X.N[i]? =some n)(hx:Loc X.env.scope n)
  (y:wpAny (model X.prog X.w) X.A (execs body X.env) (λf s1=>f=.next/\Q .next s1) (ih X o5 σ s0 D k) s0)
  (b:∀E C H s2,Inv X o5 (σ.set i (some (.ref E))) H s2->k E C H->∀E',wpAny (model X.prog X.w) (X.A.mark (some (.ref E))) (execs (B::S) X.env)
   (λf s4=>wpAny (model X.prog X.w) X.A (do bindName X.env n .none;unbindBehindTheSuite X.env n hp) (λ_ s5=>Q f s5) X.xe s4) E' s2)
  (hg:Gl X l)(hdb:yA l:=by decide)(hf:QP X n:=by first|exact .inl rfl|exact .inr rfl|assumption):
  wpAny (model X.prog X.w) X.A (exec (.Try body [.ExceptHandler (some (.Name l np)) (some n) (B::S) hp] [] [] o6) X.env) Q X.xe s0:=by
 refine wpAny_Try_except (wpAny_mono y (λf s1 ⟨ef,q⟩=>?_) λe s1 h=>?_)
 ·subst ef
  exact wpAny_execs_nil q
 obtain⟨E,C,H,bmC,newC,rfl,I,x,tr,th,exC,up,hk⟩:=h;have hm:X.mg l=some (.ref D):=mg_of I.mod.kin I.mod.glob hD;obtain⟨T,a0,nT,hT,fl⟩:=flying I x tr;have Z:X.A.frames=some (X.env::X.outer):=by rw[<- t];exact I.ok.frames
 refine wpAny_looks_onW Z hL (by rw[<- t];exact fl) λh₄ g d=>?_
 refine wpAny_landsW g λo a U=>?_;obtain⟨c,x5,r,J⟩:=landed I0 I x nT hT th (by rw[<- t]at a;exact a) (d.trans U)
 obtain⟨_,_,oe,_,_,he,hc,_⟩:=id x5;refine wpAny_handleBy_cons (codeAny_handlers_test (Calls.Name_function_global c.ok.kind hg (Calls.loadGlobal_global (by rw[c.ok.glob];exact c.mod.glob.keeps c.bk) hm ?_) hdb)) (by intro q;cases q)
 refine E6 (s:={ s1 with heap:=o }) (Sy c.kIn exC) (Sy c.kIn exD) hbD he hc (ig c.kIn up) ?_
 refine codeAny_handlers_suite_as ?_;obtain⟨T',a0',P,hT',fl'⟩:=flying c x5 r;refine lands_againW fl' λh₆ j u=>?_;obtain⟨I6,x6,_,_⟩:=landed I0 c x5 P hT' J j u;obtain⟨of,Y,M,I7⟩:=Y6 I0 I6 x6;exact YG (v:=.ref E) I7 hN hi hx rfl (λs7 I7=>b E C _ s7 I7 (hk of Y M) _) hf
end
section
variable {s:Shared}{A:Around}
def name_goes {n:Str}{Q:Unit->Shared->Prop}(I:Inv X o5 σ H s)(hN:X.N.Nodup)(J:X.N[i]? =some n)(hk:X.env.scope.names.lookup n=some .local)
  (h:∀s',Inv X o5 (σ.set i none) H s'->Q () s'):wpAny M A (do bindName X.env n .none;unbindBehindTheSuite X.env n o6) Q E s:=by
 obtain⟨m,hn,Z⟩:=id I.loc;have f:i < σ.length:=by rw[I.len];exact(cm.mp J).1
 refine wpAny_nameGoes_keeps hk hn (by rw[I.ok.kind];rfl) λh' v B t=>h _ ?_
 have old:∀b o,b≠X.env.locals->s.heap.get? b=some o->h'.get? b=some o:=λb o n q=>(t.2 b n).trans q;have nl:∀{b:Addr}{u:HO},H b=some u->b≠X.env.locals:=λq z=>by rw[z,I.free]at q;cases q
 have ab:∀{b:Addr}{k:Nat},b<k->k<=X.env.locals->b≠X.env.locals:=λl g=>aO (aK l g);refine⟨I.ok,I.os,I.bare,⟨λb o e z D x=>?_,λb o e z D x=>?_,I.base.free,λb o e x=>?_,I.base.tups,I.base.frzs,I.base.tbls⟩,⟨_,B,λj y L a r e3=>?_⟩,λy c e=>?_,I.free,I.freeC,λp Y=>?_,λb u q=>?_,by simpa using I.len⟩
 ·exact old b o (ab (aM e) I.ok.above) (I.base.keep b o e z D x)
 ·obtain⟨S,a⟩:=I.base.slot b o e z D x
  exact⟨S,old b _ (ab (aM e) I.ok.above) a⟩
 ·obtain⟨o',a⟩:=I.base.there b o e x
  exact⟨o',old b _ (ab (aM e) I.ok.above) a⟩
 ·by_cases C:j=i
  ·subst C
   rw[ar f]at r;cases r
  ·rw[av (Ne.symm C)]at r
   obtain⟨U,P,q⟩:=Z j y L a r e3;refine⟨U,P,?_⟩;rcases q with ⟨k,e⟩|⟨k,c,e,z⟩
   ·have:y≠n:=λe=>C (U5 hN a (e ▸ J))
    exact .inl ⟨k,by simp[this,e]⟩
   ·exact .inr ⟨k,c,e,z.sameBut t (I.cne y c e)⟩
 ·obtain⟨K,z⟩:=I.cell y c e
  exact⟨K,z.sameBut t (I.cne y c e)⟩
 ·obtain⟨e,z,ne,T,d⟩:=I.pin p Y
  exact⟨old _ _ ne e,z,ne,T,d⟩
 ·refine(I.hok b u q).stay (λc v hc z=>old c v ?_ z) (λ_ z=>z) λ_ _ z=>z
  rcases hc with e|e
  ·rw[e];exact nl q
  ·exact nl e
def E7 {j:Nat}{n y:Str}{E:Addr}{D Y J p:Pos}{Q:Flow->Shared->Prop}{C:bV}(I:Inv X o5 (σ.set i (some (.ref E))) H s)(d:X.N.Nodup)(b:X.N[i]? =some n)(x:X.N[j]? =some y)
  (h:X.env.scope.names.lookup n=some .local)(g:Loc X.env.scope y)(q:∀s',Inv X o5 (((σ.set i (some (.ref E))).set j (some (.ref E))).set i none) H s'->Q .next s')
  (o:swapsWith (.Name n D) (some (.Name y Y)) J.line X.env=pure false)(P:QP X y)
  (c:yA n:=by decide):
  wpAny (model X.prog X.w) A (execs [.Assign [.Name y Y] (.Name n D) J] X.env) (λf K=>wpAny (model X.prog X.w) X.A (do bindName X.env n .none;unbindBehindTheSuite X.env n p) (λ_ S=>Q f S) X.xe K) C s:=by
 obtain⟨m,L,t⟩:=I.loc;have a:i < σ.length:=by have:=I.len;rw[bw]at this;rw[this];exact(cm.mp b).1
 obtain⟨u,r,l⟩:=t i n (.ref E) b (ar a) (.inl h);obtain rfl:u=Value.ref E:=r;have M:m n=some (.ref E):=by
  rcases l with ⟨_,e⟩|⟨k|k,_⟩
  ·exact e
  ·rw[show X.env.kindOf n=some .local from h]at k;cases k
  ·rw[show X.env.kindOf n=some .local from h]at k;cases k
 refine wpAny_execs_cons (wpAny_Assign_Name (wpAny_Name (wpAny_loadName_local I.ok.kind h L M ?_) c) o);exact YG (v:=.ref E) I d x g rfl (λS B=>wpAny_execs_nil (name_goes B d b h q)) P
end
open PySem PySem.W PySem.Spec PySem.Calls PyProof.Rows Builtin Builtin.ObjectAttr Builtin.Getset_descriptor
section
variable {prog:Program}{w:World}{A:Around}{s:Shared}{K:Frag}{x:Addr}{name:Str}
def ik {a g:Value}(X:K.In h)(b:findIn K (.ref D) name=some (some a))(n:specialIn K a "__get__"=some (some g))(H:takesIn K a=some true):Looks M h (find (.ref x) (.ref D) name) (.bind g a):=
 (looks_findIn (M:=M) X b).andThen ((show Looks M h (getOf (some a)) (some g) from looks_specialIn X n).andThen
  ((show Looks M h (dataDescriptor? (some a) (some g)) (some (g,a)) from (looks_takesIn (M:=M) X H).andThen .now).andThen (Looks.tag .now)))
def il {t:Value}{R:Result->Shared->Prop}(X:K.In s.heap)(L0:Looks (model prog w) s.heap (typeOf (.ref x)) (.ref D))(H:mroIn K D (.type "object")=some true)(h:R (.ok (.ret (.ref D))) s):
  codeAny (model prog w) A (.call (.builtin "getset_descriptor.__get__") ⟨[.builtin "object.__class__",.ref x,t],[]⟩) R s:=by
 obtain⟨a,g,d,T,o⟩:=s;have L:=looks_mroIn (M:=model prog w) X H;have S:=KF.slot_gs;refine codeAny_call_builtin S.plain KF.entry_gs (S.check _ _ _ _ _ _ _ _ KF.type_class (KF.args_gs _ _ _) ?_);unfold «getset_descriptor.__get__» descrGet;rw[dga_obj];refine cf (cg ?_);unfold descrGetter descrCheckInstance isInstance descrNameAndClass;simp only[KF.owner_class]
 repeat lk
 refine And.intro (Code.quiet_builtin _ (by decide +kernel)) (codeAny_builtin KF.entry_class ?_)
 unfold «object.__class__» shownTypeOf
 repeat lk
 exact h
def EU {t:bQ}{b:List (Str×Value)}{Q:Unit->Shared->Prop}(X:K.In s.heap)(L0:Looks M s.heap (typeOf (.ref x)) (.ref D))(H:mroIn K D (.type "BaseException")=some true)
  (ok:argsOk "BaseException.__getattribute__" ⟨.ref x::t,b⟩)(h:Q () s):wpAny M A (checkBuiltinCall "BaseException.__getattribute__" ⟨.ref x::t,b⟩) Q E s:=by
 have cut:splitId "BaseException.__getattribute__"=some ("BaseException","__getattribute__"):=by first|rfl|decide +kernel
 have a:builtinKind "BaseException.__getattribute__"=some .slot∨builtinKind "BaseException.__getattribute__"=some .method:=by
  simp only[builtinKind,cut]
  first|exact .inl (by decide +kernel)|exact .inr (by decide +kernel)
 have L:=looks_mroIn (M:=M) X H;have r:wpAny M A (match Manifest.signature? "BaseException.__getattribute__" with|some S=>Bind.checkArgs "BaseException.__getattribute__" S ⟨.ref x::t,b⟩|none=>pure ()) Q E s:=wpAny_of_eq ok h
 rcases a with d|d
 all_goals
  unfold checkBuiltinCall;rw[d,cut];dsimp only;unfold isInstance;refine cf (cf (L0.at (L.at ?_)));exact r
def FQ {Q:Option Value->Shared->Prop}(b:findIn K (.ref D) "__getattribute__"=some (some (.builtin "BaseException.__getattribute__")))(n:findIn K (.ref D) "__getattr__"=some none)
  (e:findIn K (.ref D) "__class__"=some (some (.builtin "object.__class__")))
  (f:specialIn K (.builtin "object.__class__") "__get__"=some (some (.builtin "getset_descriptor.__get__")))(H:takesIn K (.builtin "object.__class__")=some true)(i:mroIn K D (.type "object")=some true)(a:mroIn K D (.type "BaseException")=some true)
  (X:K.In s.heap)(L0:Looks (model prog w) s.heap (typeOf (.ref x)) (.ref D))(h:Q (some (.ref D)) { s with toks:=s.toks+1 }):wpAny (model prog w) A (getAttr? (.ref x) "__class__") Q E s:=by
 obtain⟨c,g,d,t,o⟩:=s;have L:=looks_findIn (M:=model prog w) X b;have L2:=ik (M:=model prog w) (x:=x) X e f H;have l:=looks_findIn (M:=model prog w) X n;unfold getAttr?;unfold getAttrBy?;unfold getAttrBy;refine cf (wpAny_mkText (cf (wpAny_attempt (wpAny_holding (cf (L0.at (cf (L.at ?_))))))));show wpAny _ _ (getAttrByItsOwn (.ref x) (.str "__class__" t) (.ref D) (.builtin "BaseException.__getattribute__") false false) _ _ _;unfold getAttrByItsOwn;refine cf ?_;show wpAny _ _ (typeLookup (.ref D) "__getattr__") _ _ _;refine l.at (cf (wpAny_attempt (wpAny_holding ?_)));show wpAny _ _ (bindSpecial (.builtin "BaseException.__getattribute__") (.ref x) >>= _) _ _ _;refine cf (wpAny_of_eq (F.excAttr_ValueError.ga.bind _) ?_);refine wpAny_call (codeAny_call_builtin F.excAttr_ValueError.ga.plain F.entry_bexc_ga (EU X L0 a (F.args_bexc_ga _ _) ?_));unfold «object.__getattribute__»;refine cf (wpAny_of_eq (show slotArgs "__getattribute__" 1 ⟨[.ref x]++[.str "__class__" t],[]⟩=pure (.ref x,[.str "__class__" t]) from rfl) ?_)
 refine cf (wpAny_of_eq (show attrName (.str "__class__" t)=pure ("__class__":Str) from rfl) (cf (L0.at (cf (L2.at ?_)))))
 show wpAny _ _ (holding [Value.builtin "object.__class__"] (call (.builtin "getset_descriptor.__get__") [.builtin "object.__class__",.ref x,.ref D]) >>= ret) _ _ _;refine cf (wpAny_holding (wpAny_call (il (s:=⟨c,g,d,t+1,o⟩) X L0 i ?_)));refine cg ?_;exact handed_on rfl (cg h)
end
def XA (x D:Addr)(h:Heap):Prop:=∃o,h.get? x=some o/\o.cls=.ref D
def XA.ty {x:Addr}(p:XA x D h):Looks M h (typeOf (.ref x)) (.ref D):=by obtain⟨o,H,c⟩:=p;rw[<- c];exact(Looks.ld H).andThen .now
def Bf {K:Frag}{x:Addr}(d:(clsIn K D).isSome=true)(c:findIn K (.ref D) "__getattribute__"=some (some (.builtin "BaseException.__getattribute__")))(b:findIn K (.ref D) "__getattr__"=some none)(e:findIn K (.ref D) "__class__"=some (some (.builtin "object.__class__")))
  (j:specialIn K (.builtin "object.__class__") "__get__"=some (some (.builtin "getset_descriptor.__get__")))(H:takesIn K (.builtin "object.__class__")=some true)(r:mroIn K D (.type "object")=some true)(a:mroIn K D (.type "BaseException")=some true):
  KitX K (.ref x) (.ref D) (XA x D) where
 ty:=λ_ _ _ p=>p.ty
 it:=λ_ _ X _=>by
  obtain⟨C,h⟩:=Option.isSome_iff_exists.mp d;unfold clsIn at h
  split at h
  ·rename_i g y f S o
   intro A Q E u k q;unfold isType loadHead;exact cf (wpAny_loadPart (k _ _ (X D _ o)) (cg q))
  ·cases h
 ne:=λ_ T v i n l X t=>by
  obtain⟨C,h⟩:=Option.isSome_iff_exists.mp d;rw[Bool.eq_false_iff];intro q;cases Value.ref.inj (aL.mp q);unfold clsIn at h
  split at h
  ·rename_i o
   cases (X _ _ o).symm.trans t
  ·cases h
 ca:=λX p k=>FQ c b e j H r a X p.ty k
noncomputable def Wk (K:Frag)(C:Addr):Bool:=(PySem.W.clsIn K C).isSome&&(PySem.W.findIn K (.ref C) "__getattribute__" == some (some (.builtin "BaseException.__getattribute__")))&&(PySem.W.findIn K (.ref C) "__getattr__" == some none)&&(PySem.W.findIn K (.ref C) "__class__" == some (some (.builtin "object.__class__")))&&
 (PySem.W.specialIn K (.builtin "object.__class__") "__get__" == some (some (.builtin "getset_descriptor.__get__")))&&(PySem.W.takesIn K (.builtin "object.__class__")==some true)&&(PySem.W.mroIn K C (.type "object")==some true)&&(PySem.W.mroIn K C (.type "BaseException")==some true)
section
variable {s:Shared}{A:Around}{c:Value}{b:Bool}{ea C:Addr}
def ip {o:Obj}{u:HO}(I:Inv X o5 σ H s)(e:H ea=some (.frz o u))(d:o.cls=.ref C)(k:Wk X.K C=true)(q:kitOne X.K (.ref C) c=some b)(h:∀t,Q (.bool b) { s with toks:=t }):
  wpAny (model X.prog X.w) A (call (.builtin "isinstance") [.ref ea,c]) Q E s:=by
 have p:XA ea C s.heap:=⟨o,(show qV X.prog X.w H s.heap ea (.frz o u) from I.hok ea _ e).1,d⟩
 unfold Wk at k;simp only[ak,aL]at k;obtain⟨⟨⟨⟨⟨⟨⟨r,n⟩,a⟩,l⟩,i⟩,j⟩,g⟩,f⟩:=k;exact bB (Bf r n a l i j g f) I.kIn p q (λz=>nomatch z) h
def iq (I:Inv X o5 σ H s)(q:kitOne X.K (.type "NoneType") c=some b)(h:∀t,Q (.bool b) { s with toks:=t }):wpAny (model X.prog X.w) A (call (.builtin "isinstance") [.none,c]) Q E s:=
 OJ I (x:=.non) rfl .non q h
end
noncomputable def kA (P:Program)(w:World)(K:Frag)(M:bY)(b:Heap)(N:bU)(qual:Str)(scope:Scope)(f:Addr)(c:Value)(cl:b0)(A:Around)(o:bZ)(s:Shared)(H:Hp)(E:XK):Cx where
 prog:=P
 w:=w
 K:=K
 mg:=M
 base:=b
 A:=A.deeper (envX qual scope s.heap.objs.size f c cl)
 N:=N
 s0:=s
 H0:=H
 env:=envX qual scope s.heap.objs.size f c cl
 outer:=o
 stack:=envX qual scope s.heap.objs.size f c cl::o
 ex:=[]
 calm:=true
 fn:=λ_=>false
 pn:=[]
 xe:=λe d=>wpAny (model P w) (A.deeper (envX qual scope s.heap.objs.size f c cl)) (leaving (envX qual scope s.heap.objs.size f c cl) e) (λ_ S=>wD P w o H s E e S) (λa S=>wD P w o H s E a S) d
section
variable {w:World}{K:Frag}{cd:Value}{cl:b0}{A:Around}{outer:bZ}{s:Shared}{E:XK}
def Ds {h:Hp}{a C:Addr}(I:Inv (kA P w K mg base N qual scope f cd cl A outer s H E) o5 σ h s')(x:gQ h s'.heap s.heap a (.ref C))(y:E (.ref C) none h):
  (kA P w K mg base N qual scope f cd cl A outer s H E).xe (.ref a) s':=by
 have bs:Un (qL outer) [] H h s.heap s'.heap:=I.base;have J:∀b∈qL (envX qual scope s.heap.objs.size f cd cl::outer),h b=none:=I.stkFree;have p:s.heap.get? s.heap.objs.size=none:=Heap.get?_none_of_le (aq _);have g:(envX qual scope s.heap.objs.size f cd cl).frame=some s.heap.objs.size:=rfl;have mem:∀b,b∈qL (envX qual scope s.heap.objs.size f cd cl::outer)↔b=s.heap.objs.size∨b∈qL outer:=λb=>by unfold qL;rw[ba,g];exact mem_cons
 show wpAny (model P w) (A.deeper (envX qual scope s.heap.objs.size f cd cl)) (leaving (envX qual scope s.heap.objs.size f cd cl) (.ref a)) _ _ s';refine My (base:=base) (L:=s.heap.objs.size) I.ok.frames rfl I.stack x (λb u e=>(I.hok b u e).obj) (λb o e=>bs.there b o e (by simp)) λY D U X t=>?_
 have r:∀b u,h b=some u->b∉qL (envX qual scope s.heap.objs.size f cd cl::outer):=λb u e B=>by rw[J b B]at e;cases e
 refine⟨a,C,h,rfl,I.os,I.bare,⟨λb o e n nb _=>?_,λb o e n T _=>?_,λb o e n d=>bs.free b o e n d,λb o e d=>?_,bs.tups,bs.frzs,bs.tbls⟩,λb u e=>?_,X,t,y⟩
 ·have i:b≠s.heap.objs.size:=λz=>by rw[z,p]at e;cases e
  exact D b o (bs.keep b o e n nb (by simp)) (λB=>(mem b).mp B |>.elim i nb) (.inl ⟨o,e⟩)
 ·obtain⟨l,q⟩:=bs.slot b o e n T (by simp)
  obtain⟨S,Q⟩:=U b _ q ((mem b).mpr (.inr T));exact⟨S,Q⟩
 ·obtain⟨M,q⟩:=bs.there b o e d
  by_cases B:b∈qL (envX qual scope s.heap.objs.size f cd cl::outer)
  ·obtain⟨l,z⟩:=U b M q B;exact⟨_,z⟩
  ·exact⟨M,D b M q B (.inl ⟨o,e⟩)⟩
 ·refine(I.hok b u e).stay (λc v j q=>?_) (λ_ q=>q) λ_ _ q=>q
  rcases j with z|z
  ·rw[z]at q ⊢;exact D b v q (r b u e) (.inr ⟨u,e⟩)
  ·exact D c v q (r c _ z) (.inr ⟨_,z⟩)
def M0:wy (kA P w K mg base N qual scope f cd cl A outer s H E) s.heap (yW K E) where
 th:=λp g h S I b o e=>(show Un (qL outer) [] H h s.heap S.heap from I.base).there b o e (by simp)
 out:=λp g h S d C x I l c a=>Ds I l (a C c)
structure G0 (N:bU)(sc:Scope):Prop where
 kind:sc.kind=.function
 co:sc.isCoroutine=false
 gen:sc.isGenerator=false
 nocell:∀y∈sc.names,y.2≠.cell
structure Z0 (base:Heap)(N:bU)(scope:Scope)(cl:b0)(vs:List V):Prop where
 len:vs.length=N.length
 inj:∀x y c,cl.lookup x=some c->cl.lookup y=some c->x=y
 has:∀x,scope.names.lookup x=some .free->∃c,cl.lookup x=some c
 cell:∀x c,cl.lookup x=some c->∃v,base.IsCell c v
 val:∀(i:Nat)(x:Str)(v:V),N[i]? =some x->vs[i]? =some v->∃c u,scope.names.lookup x=some .free/\cl.lookup x=some c/\base.IsCell c (some u)/\RelV v u
def ir {J:Heap}{T:Tok}(S:G0 N scope)(L:A.handled=none)(d:J3 P w K mg base A outer s H)(C:Z0 base N scope cl vs)(l:∃m,J.Ns s.heap.objs.size m)(q:∀b o,s.heap.get? b=some o->J.get? b=some o):
  Inv (kA P w K mg base N qual scope f cd cl A outer s H E) [] (L2.start N vs) H { s with heap:=J,toks:=T }:=by
 have n:∀b:Addr,b∉(kA P w K mg base N qual scope f cd cl A outer s H E).ex:=λb z=>absurd (show b∈([]:bR) from z) (by simp)
 have bk:∀c v,base.IsCell c v->J.IsCell c v/\H c=none:=λc v ⟨o,t,L⟩=>⟨⟨o,q _ _ (d.bs _ _ t).1,L⟩,(d.bs _ _ t).2⟩;obtain⟨m,M⟩:=l;refine⟨⟨d.mod,S.kind,rfl,rfl,aq _,C.inj,λy g=>?_,λy c z _=>(nomatch z),λ_=>L,Around.frames_deeper d.frames,.inr ⟨rfl,rfl⟩,λb z=>absurd z (n b),d.bs,d.bsz,λb _ _=>n b,λb z=>absurd z (n b),d.funs,d.frf⟩,
  rfl,d.bare,Un.kept q,⟨m,M,λi y v J I D=>?_⟩,λy c h=>?_,d.hok.fresh (aq _),λy c h=>?_,λp x=>absurd (show p∈([]:bS) from x) (by simp),d.hok.kept q,?_⟩
 ·have g:scope.names.lookup y=some .cell∨scope.names.lookup y=some .free:=g
  rcases g with g|g
  ·exact absurd rfl (S.nocell _ (PySem.mem_of_lookup g))
  ·exact C.has y g
 ·have j:i<vs.length:=by
   unfold L2.start at I
   by_cases j:i<vs.length
   ·exact j
   ·rw[au (by simpa using j)]at I
    rw[bb]at I
    split at I<;>cases I
  have B:vs[i]? =some v:=by
   unfold L2.start at I;rw[ah (by simpa using j),ax]at I
   cases e:vs[i]? with|none=>rw[e]at I;cases I|some a=>rw[e]at I;cases I;rfl
  obtain⟨c,u,k,e,z,r⟩:=C.val i y v J B;exact⟨u,r,.inr ⟨.inr k,c,e,(bk _ _ z).1⟩⟩
 ·obtain⟨v,z⟩:=C.cell y c h
  exact⟨v,(bk _ _ z).1⟩
 ·obtain⟨v,z⟩:=C.cell y c h
  exact(bk _ _ z).2
 ·unfold L2.start
  show _=N.length;rw[aw,ag,bo,C.len];lia
def TY (o:Obj)(q:Str):Prop:=∃v t,o.data=.fields v/\v[1]? =some (.str q t)
def iu {k:Nat}{name:Str}{params:Arguments}{body:Expr}{pm ctv:Value}{i:Obj}{u uc:HO}{m:Ev}(S:G0 N scope)(C:Z0 base N scope cl vs)(p:TY i qual)
  (g:∀(A:Around)(outer:bZ)(s:Shared)(H:Hp)(E:XK),jb k (A.deeper (envX qual scope s.heap.objs.size a (.ref c) cl))->wy (kA P w K mg base N qual scope a (.ref c) cl A outer s H E) s.heap (yW K E)->
   SE (kA P w K mg base N qual scope a (.ref c) cl A outer s H E) (yW K E) body m):
  yi P w K mg base (wD P w) (k+1) a (kla_fn name qual params body scope cl pm (.ref c) ctv) [] (λus H Q E=>us=[]/\H a=some (.frz (kla_obj name qual params body scope cl pm c ctv) u)/\H c=some (.frz i uc)/\
   ∃φ A ws,zL K φ A H/\zC K φ H ws vs/\(m (ws.map some) A).post (PB K φ H Q) (EB K φ H (yW K E))):=by
 refine⟨λus H Q E h=>by rw[h.1];rfl,λA outer s H args us L Q E n l hb r h=>?_⟩
 obtain⟨rfl,h1,h2,φ,A1,ws,Sm,D,hp⟩:=h;cases r;have ho:s.heap.get? a=some (kla_obj name qual params body scope cl pm c ctv):=(show qV P w H s.heap a (.frz _ u) from l.hok a _ h1).1
 have hc:s.heap.get? c=some i:=(show qV P w H s.heap c (.frz i uc) from l.hok c _ h2).1
 have lim:s.heap.NoLimit:=l.mod.nolimit.keeps λb o e=>(l.bs b o e).1;obtain⟨M,U,B,hd2⟩:=p;refine kla_callFunE n.depth ho rfl S.co S.gen rfl ⟨c,i,M,U,rfl,hc,B,hd2⟩ (hb _ _ _ _ ?_);refine wpAny_newFunctionEnv S.nocell (λy Y=>absurd (show y∈([]:List (Str×Value)) from Y) (by simp)) (λd t j=>⟨lim.fresh _ j,?_⟩) S.kind
 show codeAny _ _ (.expr body (envX qual scope s.heap.objs.size a (.ref c) cl)) _ _;have f:∀b o,s.heap.get? b=some o->d.get? b=some o:=λb o e=>j.extBut b o (aO (aM e)) (af _ e);have I:∀T,Inv (kA P w K mg base N qual scope a (.ref c) cl A outer s H E) [] (L2.start N vs) H { s with heap:=d,toks:=T }:=λT=>ir S n.hd l C ⟨_,t⟩ f
 refine kla_codeExpr (wpAny_mono (g A outer s H E (n.deeper _) M0 [] _ (L2.start N vs) H Q (I _) ⟨φ,A1,_,Sm,RE.start (N:=N) D,?_⟩) (λv s' Z=>?_) λ_ _ y=>y)
 ·have:N.length-ws.length=0:=by rw[D.length,C.len];lia
  rw[this,List.replicate_zero,a5];exact hp
 ·obtain⟨x,H',J,X,q⟩:=Z
  exact⟨x,H',J.os,J.bare,J.base,J.hok,X,q⟩
end
inductive zdj (K:Frag)(a:Addr)(ob:Obj)(u:HO)(c:Addr)(oc:Obj)(uc:HO)(vs:List V)(g:Fn)(us:List V)(H:Hp)(Q:VK)(E:XK):Prop
 |mk (e:us=[]) (h1:H a=some (.frz ob u)) (h2:H c=some (.frz oc uc)) (φ:bR) (A:Hx) (ws:List W) (S:zL K φ A H) (r:zC K φ H ws vs) (q:(g ws A).post (PB K φ H Q) (EB K φ H (yW K E)))
def Jc (P:Program)(w:World)(K:Frag)(M:bY)(b:Heap)(j:Nat)(p:Obj->Addr->Obj->List V->Prop)(g:Fn):Prop:=
 ∀a ob u c o U v,p ob c o v->(∃f,ob.data=.func f)/\∃f,yi P w K M b (wD P w) j a f [] (zdj K a ob u c o U v g)/\∀s,BindsTo s f ⟨[],[]⟩ []
open Classical in
def Vk (i:Nat)(PG:Nat->Obj->Addr->Obj->List V->Prop)(l:Nat->Fn):Ev:=λa A=>match a[i]? with|some (some (.clo k ws P))=>if P=PG k then l k ws A else .bad|_=>.bad
def WJ (i j l:Nat)(c:bU)(PG:Nat->Obj->Addr->Obj->List V->Prop)(L:Nat->Fn):Ex:=λa A=>match Vk i PG L a A with|.ok _ b=>.ok (.nx a) b|.exc x b=>if c.contains x then .ok (.nx (((a.set l (some (.xc x))).set j (some (.xc x))).set l none)) b else .bad|.bad=>.bad
section
variable {K:Frag}
def RE.unset (r:RE K φ H ρ σ):RE K φ H (ρ.set i none) (σ.set i none):=
 ⟨by simp[r.len],λj u e=>by
  by_cases h:i=j
  ·subst h
   have a:i < ρ.length:=by
    have:=(cm.mp e).1
    simpa using this
   rw[ar a]at e;cases e
  ·rw[av h]at e
   obtain⟨x,c,b⟩:=r.get j u e;exact⟨x,by rw[av h];exact c,b⟩⟩
end
def LY (K:Frag)(c:bR)(H:Hp)(d:En)(j l:Nat)(D:Ends)(x:Str)(A:Hx):Prop:=∀a h b,Le K c H a h->zL K a A h->RE K a h (((d.set l (some (.xc x))).set j (some (.xc x))).set l none) b->D.nx b h
inductive ze2 (K:Frag)(φ:bR)(H:Hp)(ρ:En)(j l:Nat)(D0:Ends)(ea C:Addr)(H':Hp):Prop
 |mk (xn:Str) (oP:bR) (A':Hx) (le:Le K φ H oP H') (S:zL K oP A' H') (rv:RV K oP H' (.xc xn) (.ref ea)) (n:LY K φ H ρ j l D0 xn A')
inductive zeP (K:Frag)(φ:bR)(H:Hp)(ρ:En)(j l:Nat)(D0:Ends)(cs:bU)(Cv:Value)(d:b9)(H1:Hp):Prop
 |mk (xn:Str) (Ca:Addr) (e:Cv=.ref Ca) (hC:ko K xn (.ref Ca)) (hc:cs.contains xn=true) (oU:bR) (A1:Hx) (le:Le K φ H oU H1) (S:zL K oU A1 H1) (n:LY K φ H ρ j l D0 xn A1)
def L6 (K:Frag)(f:Str->Option Bool)(c:V):List V->Hp->VK->Prop:=λX H Q=>∃x,X=[x,c]/\((x=.non/\Q (.bl false) H)∨∃a o u C nm b,x=.ref a/\H a=some (.frz o u)/\o.cls=.ref C/\ko K nm (.ref C)/\f nm=some b/\Q (.bl b) H)
structure Wv (K:Frag)(f:Str->Option Bool)(c:Value):Prop where
 non:kitOne K (.type "NoneType") c=some false
 exc:∀nm C b,f nm=some b->ko K nm (.ref C)->Wk K C=true/\kitOne K (.ref C) c=some b
def ye (f:Str->Option Bool)(m:Ev):Ev:=λc A=>(m c A).bind λw a=>match w with
 |.non=>.ok (.bl false) a|.xc nm=>(match f nm with|some b=>.ok (.bl b) a|none=>.bad)
 |_=>.bad
section
variable {m:Ev}{f:Str->Option Bool}
def OL {cv:V}{c:Value}(g:Wv X.K f c)(n:∀u,RelV cv u->u=c):yw X (.builtin "isinstance") (L6 X.K f cv):=by
 intro p s A H B D Q I r h;obtain⟨x,rfl,h⟩:=h;obtain⟨u,l,rfl,e,d⟩:=vals2 r;cases n _ d;rcases h with ⟨rfl,q⟩|⟨a,o,U,C,nm,b,rfl,h1,h2,j,i,q⟩
 ·cases (show u=Value.none from e)
  exact iq I g.non λt=>⟨.bl false,H,I.tok t,rfl,q⟩
 ·cases (show u=Value.ref a from e)
  obtain⟨y,v⟩:=g.exc nm C b i j;exact ip I h1 h2 y v λt=>⟨.bl b,H,I.tok t,rfl,q⟩
def ye.read {p:V}{t:TE}(x:∀σ H Q,Q p H->t σ H Q):∀σ H Q,tM X.K xr (ye f m) σ H Q->VN (L6 X.K f p) (XZ (tM X.K xr m) (XZ t Rh)) σ H Q:=by
 rintro σ H Q ⟨y,A,B,S,r,h⟩
 refine tM.go S r (zV.mp h) λw D c n v j l d q=>?_;refine x σ n _ ?_;cases w with
 |non=>
  obtain rfl:=q;exact⟨.non,rfl,.inl ⟨rfl,j c n _ l d rfl⟩⟩
 |xc nm=>
  dsimp only at j;cases e:f nm with
  |none=>rw[e]at j;exact j.elim|some b=>
   rw[e]at j;obtain⟨a,o,u,C,rfl,i,g,Z⟩:=q;exact⟨.ref a,rfl,.inr ⟨a,o,u,C,nm,b,rfl,i,g,Z,e,j c n _ l d rfl⟩⟩
 |fn _=>exact j.elim|bl _=>exact j.elim|int _=>exact j.elim|str _=>exact j.elim|tup _=>exact j.elim|ref _=>exact j.elim|clo _ _ _=>exact j.elim
end
def HM {a b:Int}{c C:Value}(l:bQ)(h:TriplesOk l)(e:codeAmong o6 (l++[rawInt a,rawInt b,c])=some C):codeAmong o6 l=some C∨C=c:=by
 fun_induction TriplesOk l with
 |case1=>
  right
  simp only[bK,codeAmong,rawInt]at e
  split at e
  ·exact(aE e).symm
  ·cases e
 |case2 A t B u x r i=>
  simp only[List.cons_append,codeAmong]at e ⊢
  split at e
  ·rename_i H;rw[ai H];exact .inl e
  ·rename_i H;rw[aj H];exact i h e
 |case3 l f d=>exact h.elim
def BMain (M:bY)(b:Heap):Prop:=∃B o,M "__builtins__"=some (.ref B)/\B≠builtinsNs/\B≠mainGlobals/\b.get? B=some o/\o.cls=.type "module" /\ o.dict=some builtinsNs/\o.data=.plain
def Vh (q:Str)(p:Arguments)(b:Expr)(scope:Scope)(C:b0):Obj->Addr->Obj->List V->Prop:=λob c o _=>(∃P v,ob=kla_obj "<lambda>" q p b scope C P c v)/\TY o q
noncomputable def wO (n:Nat)(q:Str)(P:Addr)(k:Nat)(p:Obj->Addr->Obj->List V->Prop):Ev:=λ_ A=>match A[n]? with|some (.tab Q P')=>if Q=q/\P'=P then .ok (.clo k [] p) A else .bad|_=>.bad
section
variable {k:Nat}{q:Str}{P:Addr}{params:Arguments}{body:Expr}{pa:b0}
def iw (hB:BMain X.mg X.base)(y:X.env.code=.ref c)(C:CodeHd X.base c P)(hcl:closureFor scope X.env=pure pa)(hq:X.env.qual ++ "<lambda>"=q)(hdef:defaultsOf params X.env=([],[]):=by rfl):
  SE X xr (.Lambda params body scope o6) (wO n q P k (Vh q params body scope pa)):=by
 intro o5 s σ H Q I ⟨φ,A,ρ,S,re,h⟩;unfold wO at h;cases Z:A[n]? with
 |none=>rw[Z]at h;exact h.elim|some o=>
  rw[Z]at h;cases o with
  |tab L P'=>
   dsimp only at h
   by_cases hc:L=q/\P'=P
   ·rw[ai hc]at h
    obtain⟨rfl,rfl⟩:=hc;obtain⟨a,ha,eaP,ps,t,Y⟩:=S.ob n _ Z;subst eaP;have hP:s.heap.get? a=some (tabObj ps):=(show qV X.prog X.w H s.heap a (.tbl ps) from I.hok a _ t)
    have hg:s.heap.Ns mainGlobals X.mg:=I.mod.glob.keeps I.bk;have hgP:mainGlobals≠a:=λz=>by obtain⟨o,es,ep,e,hd,_⟩:=hg;rw[z,hP]at e;cases e;cases hd
    have r:s.heap.BuiltinsAt X.mg a:=by
     obtain⟨bm,o,b1,b2,b3,b4,b5⟩:=hB;refine⟨bm,o,b1,b2,b3,λz=>?_,I.bk _ _ b4,b5⟩
     have:=(I.bs _ _ b4).2
     rw[z,t]at this;cases this
    refine PySem.W.kla_eval hdef ?_;rw[hq];have M:∀b,s.heap.objs.size<=b->H b=none:=λb r=>I.hok.fresh r;cases hf:codeAmong o6 ps.toList with
    |none=>
     refine PySem.W.kla_makeFunction (mg:=X.mg) hcl I.ok.glob hg y (C.keeps I.bk) hP Y.1 hf hgP r λf ctv h' tk hx x U hrec htb=>?_;obtain⟨c2,g,vc,tc,ec,hoc,D,hd2⟩:=hrec;cases ec;generalize j:kla_obj "<lambda>" L params body scope pa ((X.mg "__name__").getD .none) f ctv=ob;have hPc:a<s.heap.objs.size:=aM hP;have nPc:a≠f:=aO (aK hPc x);have nPf:a≠h'.objs.size:=aO (lt_trans (aK hPc x) U);have T:f≠h'.objs.size:=aO U;have hsf:s.heap.objs.size<=h'.objs.size:=aZ x (bI U);have E:H f=none:=M f x;have l:H h'.objs.size=none:=M _ hsf;have H1f:upd H f (.frz g (.own 0)) h'.objs.size=none:=by rw[qm (Ne.symm T)];exact l
     generalize B:ps++#[rawInt o6.line,rawInt o6.col,.ref f]=p at htb;have S1:=S.lay (u:=.frz g (.own 0)) E;have S2:=S1.lay (u:=.frz ob (.own 0)) H1f;have fz:∀b o u,upd (upd H f (.frz g (.own 0))) h'.objs.size (.frz ob (.own 0)) b=some (.frz o u)->upd (upd (upd H f (.frz g (.own 0))) h'.objs.size (.frz ob (.own 0))) a (.tbl p) b=some (.frz o u):=λb o u e=>by rw[qm];exact e;intro z;rw[z,qm nPf,qm nPc,t]at e;cases e
     have fz0:∀b o u,H b=some (.frz o u)->upd (upd H f (.frz g (.own 0))) h'.objs.size (.frz ob (.own 0)) b=some (.frz o u):=λb o u e=>by rw[qm (kY e l),qm (kY e E)];exact e
     have tg':WT (upd (upd (upd H f (.frz g (.own 0))) h'.objs.size (.frz ob (.own 0))) a (.tbl p)) L p:=by
      rw[<- B];refine⟨by rw[Array.toList_append];exact TriplesOk_snoc _ _ _ _ Y.1,λpos' cv e=>?_⟩
      rw[Array.toList_append]at e;rcases HM _ Y.1 e with e|e
      ·obtain⟨c0,oc0,u0,vs0,t0,g1,g2,g3⟩:=Y.2 pos' cv e
       exact⟨c0,oc0,u0,vs0,t0,g1,by rw[B];exact fz _ _ _ (fz0 _ _ _ g2),g3⟩
      ·exact⟨f,g,.own 0,vc,tc,e,by rw[B];exact fz _ _ _ (by rw[qm T,jN]),D,hd2⟩
     obtain⟨l3,S3⟩:=S2.write (o:=.tab L a) (o':=.tab L a) Z rfl rfl ha (u:=.tbl p) ⟨rfl,p,jN,tg'⟩;have l03:Le X.K φ H φ _:=((Le.new E).trans (Le.new H1f)).trans l3;have set3:A.set n (.tab L a)=A:=by
      apply ext_getElem?
      intro i
      by_cases hi:n=i
      ·subst hi
       rw[ar (cm.mp Z).1,Z]
      ·rw[av hi]
     rw[set3]at S3;have eP:upd (upd (upd H f (.frz g (.own 0))) h'.objs.size (.frz ob (.own 0))) a (.tbl p) a=some (.tbl p):=jN;have ec:upd (upd (upd H f (.frz g (.own 0))) h'.objs.size (.frz ob (.own 0))) a (.tbl p) f=some (.frz g (.own 0)):=by rw[qm (Ne.symm nPc),qm T,jN]
     have ef:upd (upd (upd H f (.frz g (.own 0))) h'.objs.size (.frz ob (.own 0))) a (.tbl p) h'.objs.size=some (.frz ob (.own 0)):=by rw[qm (Ne.symm nPf),jN]
     have J:∀b,b≠a->b≠f->b≠h'.objs.size->upd (upd (upd H f (.frz g (.own 0))) h'.objs.size (.frz ob (.own 0))) a (.tbl p) b=H b:=λb n1 n2 n3=>by rw[qm n1,qm n3,qm n2]
     generalize upd (upd (upd H f (.frz g (.own 0))) h'.objs.size (.frz ob (.own 0))) a (.tbl p)=H3 at S3 l03 eP ec ef J;have kp:∀b o,b≠a->s.heap.get? b=some o->(h'.push ob).get? b=some o:=λb o n e=>af _ (hx b o n e);have old:∀b o,s.heap.get? b=some o->b≠f/\b≠h'.objs.size:=λb o e=>⟨aO (aK (aM e) x),aO (aK (aM e) hsf)⟩;have N:∀b u,H b=some u->b≠f/\b≠h'.objs.size:=λb u e=>⟨kY e E,kY e l⟩;have gP:(h'.push ob).get? a=some (tabObj p):=af _ htb;have I3:Inv X o5 σ H3 { s with heap:=h'.push ob,toks:=tk }:=by
      refine I.un ⟨λb o e z r _=>?_,λb o e z r _=>?_,λb o e z _=>?_,λb o e _=>?_,λb xs e=>?_,λb o u e=>?_,λb qs e=>?_⟩ λb u e=>?_
      ·exact kp b o (λw=>by rw[w,t]at z;cases z) e
      ·exact⟨o.slots,kp b o (λw=>by rw[w,t]at z;cases z) e⟩
      ·rw[J b (λw=>by rw[w,t]at z;cases z) (old b o e).1 (old b o e).2];exact z
      ·by_cases r:b=a
       ·rw[r];exact⟨_,gP⟩
       ·exact⟨o,kp b o r e⟩
      ·rw[J b (Kc e t (by intro w;cases w)) (N b _ e).1 (N b _ e).2];exact e
      ·rw[J b (Kc e t (by intro w;cases w)) (N b _ e).1 (N b _ e).2];exact e
      ·by_cases r:b=a
       ·subst r
        rw[t]at e;cases e;exact⟨_,by rw[eP,<- B]⟩
       ·exact⟨#[],by rw[J b r (N b _ e).1 (N b _ e).2,e];simp⟩
      ·by_cases h1:b=a
       ·subst h1
        rw[eP]at e;cases e;exact gP
       ·by_cases h2:b=f
        ·subst h2
         rw[ec]at e;cases e;exact⟨af _ hoc,⟨_,af _ hoc⟩⟩
        ·by_cases h3:b=h'.objs.size
         ·subst h3
          rw[ef]at e;cases e;exact⟨aC _ (by rw[<- j];rfl),⟨_,aC _ (by rw[<- j];rfl)⟩⟩
         ·rw[J b h1 h2 h3]at e
          refine(I.hok b u e).stay (λd v hd z=>kp d v ?_ z) (λd z=>?_) λd xs z=>?_
          ·rcases hd with w|w
           ·rw[w];exact h1
           ·exact Kc w t (by intro w;cases w)
          ·rw[J d (Kc z t (by intro w;cases w)) (N d _ z).1 (N d _ z).2];exact z
          ·rw[J d (Kc z t (by intro w;cases w)) (N d _ z).1 (N d _ z).2];exact z
     exact⟨.ref h'.objs.size,H3,I3,rfl,h φ H3 _ l03 S3 ⟨h'.objs.size,ob,.own 0,f,g,.own 0,[],rfl,ef,ec,⟨⟨_,_,j.symm⟩,vc,tc,D,hd2⟩,rfl⟩⟩
    |some cv=>
     obtain⟨f,g,u0,vc,tc,rfl,hHc,D,hd2⟩:=Y.2 o6 cv hf;refine PySem.W.kla_makeFunctionHit (mg:=X.mg) hcl I.ok.glob hg y (C.keeps I.bk) hP Y.1 hf r λctv h' tk hx hsz=>?_;generalize j:({ cls:=.type "function",data:=.func (kla_fn "<lambda>" L params body scope pa ((X.mg "__name__").getD .none) (.ref f) ctv) }:Obj)=ob;have l:H h'.objs.size=none:=M _ hsz;have I3:Inv X o5 σ (upd H h'.objs.size (.frz ob (.own 0))) { s with heap:=h'.push ob,toks:=tk }:=
      I.laid (λb o e=>af _ (hx b o e)) hsz ⟨aC _ (by rw[<- j];rfl),⟨_,aC _ (by rw[<- j];rfl)⟩⟩
     refine⟨.ref h'.objs.size,_,I3,rfl,h φ _ _ (Le.new l) (S.lay l) ⟨h'.objs.size,ob,.own 0,f,g,u0,[],rfl,jN,?_,⟨⟨_,_,j.symm⟩,vc,tc,D,hd2⟩,rfl⟩⟩;rw[qm (kY hHc l)];exact hHc
   ·rw[aj hc]at h;exact h.elim
  |_=>exact h.elim
end
structure Lm where
 N:bU
 idx:bT
 params:Arguments
 body:Expr
 scope:Scope
 m:Ev
noncomputable def gR:List Nat->En->Option (List W)
 |[],_=>some []|j::J,ρ=>match ρ[j]?,gR J ρ with|some (some w),some ws=>some (w::ws)|_,_=>none
noncomputable def Qb:List Nat->St->Option (List V)
 |[],_=>some []|j::J,σ=>match σ[j]?,Qb J σ with|some (some w),some ws=>some (w::ws)|_,_=>none
theorem UM {K:Frag}(r:RE K φ H ρ σ):∀{J:bT}{d:List W},gR J ρ=some d->∃vs,Qb J σ=some vs/\zC K φ H d vs
 |[],d,e=>by cases e;exact⟨[],rfl,.nil⟩|j::J,d,e=>by
  unfold gR at e;cases E:ρ[j]? with
  |none=>rw[E]at e;cases e|some ow=>cases ow with
   |none=>rw[E]at e;cases e|some w=>
    rw[E]at e;cases a:gR J ρ with
    |none=>rw[a]at e;cases e|some b=>
     rw[a]at e;cases e;obtain⟨v,g,f⟩:=r.get j w E;obtain⟨vs,c,h⟩:=UM r a;exact⟨v::vs,by unfold Qb;rw[g,c],.cons f h⟩
theorem U0:∀{J:bT}{f:List V},Qb J σ=some f->f.length=J.length/\∀(i:Nat)(v:V),f[i]? =some v->∃j,J[i]? =some j/\σ[j]? =some (some v)
 |[],f,e=>by cases e;exact⟨rfl,λi v h=>by simp at h⟩|j::J,f,e=>by
  unfold Qb at e;cases E:σ[j]? with
  |none=>rw[E]at e;cases e|some ow=>cases ow with
   |none=>rw[E]at e;cases e|some w=>
    rw[E]at e;cases r:Qb J σ with
    |none=>rw[r]at e;cases e|some c=>
     rw[r]at e;cases e;obtain⟨g,H⟩:=U0 r;refine⟨by simp[g],λi v h=>?_⟩
     cases i with|zero=>simp at h;subst h;exact⟨j,by simp,E⟩|succ i=>simp at h;obtain⟨d,a,b⟩:=H i v h;exact⟨d,by simpa using a,b⟩
noncomputable def gj (l:List Lm)(k:Nat):Fn:=λa A=>match l[k]? with|some t=>t.m (a.map some) A|none=>.bad
def wB (e:Env)(q:Str)(l:List Lm)(k:Nat):Obj->Addr->Obj->List V->Prop:=λob c o v=>∃t,l[k]? =some t/\Vh q t.params t.body t.scope (kK e t.scope.names []) ob c o v
def j8 (e:Env)(q:Str)(l:List Lm)(a:St)(k:Nat):Obj->Addr->Obj->List V->Prop:=λob c o v=>∃t,l[k]? =some t/\Vh q t.params t.body t.scope (kK e t.scope.names []) ob c o v/\Qb t.idx a=some v
structure WQ (P:Program)(w:World)(K:Frag)(mg:bY)(j:Nat)(q:Str)(t:Lm):Prop where
 sc:G0 t.N t.scope
 bind:∀(cl:b0)(pm cdv ctv:Value),bindArgs (kla_fn "<lambda>" q t.params t.body t.scope cl pm cdv ctv) ⟨[],[]⟩=pure []
 body:∀(base:Heap)(cl:b0)(a c:Addr)(A:Around)(outer:bZ)(s:Shared)(H:Hp)(E:XK),jb j (A.deeper (envX q t.scope s.heap.objs.size a (.ref c) cl))->wy (kA P w K mg base t.N q t.scope a (.ref c) cl A outer s H E) s.heap (yW K E)->
  SE (kA P w K mg base t.N q t.scope a (.ref c) cl A outer s H E) (yW K E) t.body t.m
abbrev Zl:=Nat->Obj->Addr->Obj->List V->Prop
open Classical in
def QL (PG:Zl)(r:Nat->List W->Hx->R W):Fn:=λu A=>match u with|[.clo k ws P]=>if P=PG k then r k ws A else .bad|_=>.bad
open Classical in
structure Vq (X:Cx)(t:Lm):Prop where
 len:t.idx.length=t.N.length
 nm:∀(i:Nat)(x:Str)(j:Nat),t.N[i]? =some x->t.idx[i]? =some j->X.N[j]? =some x/\t.scope.names.lookup x=some .free
 free:∀y∈t.scope.names,y.2=.free->X.env.kindOf y.1=some .cell∨X.env.kindOf y.1=some .free
section
variable {s:Shared}
def G5 (I:Inv X o5 σ H s){t:Lm}(L:Vq X t)(h:(kK X.env t.scope.names []).lookup x=some c):X.env.cells.lookup x=some c:=by
 rcases Jv _ _ (PySem.mem_of_lookup h) with z|⟨z,e⟩
 ·cases z
 ·obtain⟨C,a⟩:=I.ok.has x (L.free _ z rfl)
  rw[a]at e ⊢;exact congrArg some e.symm
def US (I:Inv X o5 σ H s)(d:∀x c v,X.env.cells.lookup x=some c->s.heap.IsCell c v->base.IsCell c v){t:Lm}(L:Vq X t)(g:Qb t.idx σ=some vs):Z0 base t.N t.scope (kK X.env t.scope.names []) vs:=by
 obtain⟨D,B⟩:=U0 g;refine⟨D.trans L.len,λx y c A q=>I.ok.inj x y c (G5 I L A) (G5 I L q),λx h=>?_,λx c h=>?_,λi x v A q=>?_⟩
 ·exact Option.isSome_iff_exists.mp (GI _ _ (.inl (PySem.mem_of_lookup h)))
 ·have e:=G5 I L h
  obtain⟨v,z⟩:=I.cell x c e;exact⟨v,d x c v e z⟩
 ·obtain⟨j,p,o⟩:=B i v q
  obtain⟨n,E⟩:=L.nm i x j A p;have fr:=L.free _ (PySem.mem_of_lookup E) rfl;obtain⟨m,K,l⟩:=I.loc;obtain⟨u,r,J⟩:=l j x v n o (.inr fr);obtain⟨c,b⟩:=Option.isSome_iff_exists.mp (GI (env:=X.env) t.scope.names [] (.inl (PySem.mem_of_lookup E)));have f:=G5 I L b;rcases J with ⟨z,_⟩|⟨_,C,a,cell⟩
  ·exfalso
   rcases fr with k|k<;>(rw[k]at z;cases z)
  ·rw[f]at a
   cases a;exact⟨c,u,E,b,d x c _ f cell,r⟩
def Ag (I:Inv X o5 σ H s)(h:∀x,X.fn x=true)(e:X.env.cells.lookup x=some c):c∉qL X.stack:=λb=>by
 rcases cn.mp (I.stkSub c b) with z|z
 ·exact I.cne x c e z
 ·obtain⟨_,o,a,_⟩:=I.ok.funs.mem z
  exact absurd (aK (aM a) (I.ok.cab x c (h x) e)) (aT _)
noncomputable def w8 (B h:Heap)(c:b0):Heap:=hideAll h ((List.range h.objs.size).filter λb=>(B.get? b).isNone&&!(c.any λp=>c.lookup p.1==some b))
def O4 {o:Obj}(e:(w8 base h oW).get? b=some o):h.get? b=some o/\((∃o',base.get? b=some o')∨∃x,oW.lookup x=some b):=by
 have E:=of_hideAll _ e;refine⟨E,?_⟩
 by_cases d:b∈(List.range h.objs.size).filter λb=>(base.get? b).isNone&&!(oW.any λp=>oW.lookup p.1==some b)
 ·unfold w8 at e
  rw[hideAll_none _ d]at e;cases e
 ·rw[mem_filter]at d
  have c:b∈List.range h.objs.size:=cj.mpr (aM E);cases g:base.get? b with
  |some o'=>exact .inl ⟨o',rfl⟩|none=>
   right
   by_cases H:(oW.any λp=>oW.lookup p.1==some b)=true
   ·obtain⟨p,_,a⟩:=List.any_eq_true.mp H
    exact⟨p.1,aL.mp a⟩
   ·exact absurd ⟨c,by rw[g];simpa using H⟩ d
def Dg (k:∀b o,base.get? b=some o->h.get? b=some o){o:Obj}(e:base.get? b=some o):(w8 base h oW).get? b=some o:=
 bG _ (k b o e) λH=>by rw[mem_filter,e]at H;simp at H
def UH {o:Obj}(l:oW.lookup x=some c)(e:h.get? c=some o):(w8 base h oW).get? c=some o:=
 bG _ e λH=>by
  rw[mem_filter,ak,not_eq_true']at H
  have:=H.2.2
  rw[List.any_eq_false]at this;exact this _ (PySem.mem_of_lookup l) (by simpa using l)
variable {j:Nat}
end
inductive spT (K:Frag)(n:Nat)(fs:Zl->Fn)(vs:List V)(H:Hp)(Q:VK)(E:XK):Prop
 |mk (len:vs.length=n) (φ:bR) (A:Hx) (ws:List W) (S:zL K φ A H) (r:zC K φ H ws vs) (q:∀PF,(fs PF ws A).post (PB K φ H Q) (EB K φ H (XE K E)))
def spT.len {K:Frag}{fs:Zl->Fn}{Q:VK}{E:XK}(h:spT K n fs vs H Q E):vs.length=n:=by cases h;assumption
section
variable {w:World}{K:Frag}
def BI {a:Value}{o:b9}(n:nsIn K mainGlobals x=some (some (.ref f)))(l:K.lookup f=some ⟨a,o,.func fd,pd⟩)(H:tabIn K x=some (c,Pt)):fd.code=.ref c:=by
 unfold tabIn at H;rw[n]at H;dsimp only at H;rw[l]at H;dsimp only at H
 split at H
 ·rename_i C h
  split at H
  ·split at H
   ·cases H;exact h
   ·cases H
  ·cases H
 ·cases H
def iy {q:Str}{M:Stmt}{ps:bU}{k:Nat}{ls:List Lm}{m:Zl->Ex}(F:kS K x x M f fd)(hn:nsIn K mainGlobals x=some (some (.ref f)))(ht:tabIn K x=some (c,Pt))(S:k9 N ps (qc M))
  (a:∀(A:Around)(J:bZ)(s:Shared)(H:Hp)(E:XK),jb k (A.deeper (envOfC x (qc M) s.heap.objs.size f (.ref c)))->
   QN (yU kE P w K mg base N x (qc M) f (.ref c) A J s H E).nox jR (jO M) (m (wB (envOfC x (qc M) s.heap.objs.size f (.ref c)) q ls))):
  yi P w K mg base kE (k+1) f fd ps (spT K ps.length λt=>qo N.length (m t)):=by
 obtain⟨D,B,kV,doc,pm,an,C,ct,o,rfl,Y,d⟩:=F.ex;have v:C=.ref c:=BI hn Y ht;subst v;refine S9 Y d S (λvs H Q E h=>h.len) λA J s H vs Q E i ⟨I,U,Z,T,n,r,h⟩=>⟨_,yP.nox (a A J s H E i),?_⟩;refine⟨U,Z,T.map some++List.replicate (N.length-T.length) none,n,RE.start r,?_⟩;have L:=zV.mp (h (wB (envOfC x (qc M) s.heap.objs.size f (.ref c)) q ls));show R.post _ (FB K U H _) _;cases e:m (wB (envOfC x (qc M) s.heap.objs.size f (.ref c)) q ls) (T.map some++List.replicate (N.length-T.length) none) Z with
 |ok j A2=>
  rw[e]at L;cases j with|rt w=>exact L|nx X=>exactλb u g l p _=>L b u .non l p rfl|bk X=>exact L.elim|ct X=>exact L.elim
 |exc y A2=>rw[e]at L;exact L.elim|bad=>rw[e]at L;exact L.elim
end
noncomputable def XQ (K:Frag)(x:Str)(p:Addr):Bool:=match tabIn K x with|some (c,P)=>P==p&&codeHdIn K c p|none=>false
set_option tactic.hygienic true in
def GR {K:Frag}(h:XQ K x Pt=true):∃c,tabIn K x=some (c,Pt)/\codeHdIn K c Pt=true:=by
 unfold XQ at h
 split at h
 ·rename_i c P e
  rw[ak,aL]at h;obtain⟨rfl,H⟩:=h;exact⟨c,e,H⟩
 ·cases h
def jn.m {w:World}{K:Frag}{k:Nat}{f:Fn}(F:jn P w K mg base k x n f):qK P w K mg base k x n λws A=>(f ws A).nox:=by
 obtain⟨fa,D,ps,F,B,c,d⟩:=F;have up:∀i H Q E,Zw K n (λws A=>(f ws A).nox) i H Q E->VA K n f i H Q (λ_ _ _=>False):=λi H Q E ⟨l,q,A,ws,S,r,h⟩=>⟨l,q,A,ws,S,r,by
  cases a:f ws A with|ok u I=>(try dsimp only at h);rw[a]at h;exact h|exc y I=>(try dsimp only at h);rw[a]at h;exact h.elim|bad=>(try dsimp only at h);rw[a]at h;exact h.elim⟩
 refine⟨fa,D,ps,⟨λi H Q E h=>F.len i H Q _ (up i H Q E h),λA o s H j U i Q E b C t v h=>?_⟩,B,c,d⟩;refine codeAny_mono (F.run A o s H j U i Q _ b C t v (up i H Q E h)) λr J p=>?_;cases r with
 |error e=>
  unfold CR at p;obtain⟨_,_,_,_,_,_,_,_,_,_,z⟩:=p;exact z.elim
 |ok g=>cases g<;>exact p
theorem jn.mono {w:World}{K:Frag}{j k:Nat}{f:Fn}(F:jn P w K mg base j x n f)(h:j<=k):jn P w K mg base k x n f:=by cases F with|mk fa d ps F a b c=>exact⟨fa,d,ps,F.mono h,a,b,c⟩
noncomputable abbrev VE:bQ:=[.type "ValueError",.type "Exception",.type "BaseException",.type "object"]
noncomputable abbrev Vu:String := "ValueError.__new__"
section
variable {K:Frag}{cs:bU}{top nm:Str}
noncomputable def clsAt (K:Frag)(x:Str):Addr:=match nsIn K mainGlobals x with|some (some (.ref C))=>C|_=>0
def isAt (K:Frag)(x:Str):Bool:=nsIn K mainGlobals x==some (some (.ref (clsAt K x)))
noncomputable def yY (c:bU)(x:Str):Str->Option Bool:=λnm=>if c.contains nm then some (nm==x) else none
noncomputable def RP (c:bU):Str->Option Bool:=λnm=>if c.contains nm then some true else none
def Ja (K:Frag)(c:bU)(x:Str):Bool:=isAt K x&&kitOne K (.type "NoneType") (.ref (clsAt K x))==some false&&c.all λnm=>kitOne K (.ref (clsAt K nm)) (.ref (clsAt K x))==some (nm==x)
def XO (K:Frag)(top nm:Str):Bool:=isAt K nm&&Wk K (clsAt K nm)&&Mi.ZK K (clsAt K nm) VE Vu&&J5 K (clsAt K nm) (clsAt K top)&&kitOne K (.ref (clsAt K nm)) (.type "ValueError")==some true
def Si (K:Frag)(top:Str):Bool:=isAt K top&&Mi.ZK K (clsAt K top) VE Vu&&kitOne K (.type "NoneType") (.type "ValueError")==some false
def TF (h:isAt K x=true):ko K x (.ref (clsAt K x)):=aL.mp h
def U6 {C:Addr}(h:ko K x (.ref C)):C=clsAt K x:=by unfold clsAt;unfold ko at h;rw[h]
structure UZ (K:Frag)(top nm:Str):Prop where
 at_:ko K nm (.ref (clsAt K nm))
 kit:Wk K (clsAt K nm)=true
 exc:Mi.ZK K (clsAt K nm) VE Vu=true
 up:J5 K (clsAt K nm) (clsAt K top)=true
 val:kitOne K (.ref (clsAt K nm)) (.type "ValueError")=some true
def iz (h:XO K top nm=true):UZ K top nm:=by unfold XO at h;simp only[ak,aL]at h;obtain⟨⟨⟨⟨d,c⟩,b⟩,a⟩,H⟩:=h;exact⟨TF d,c,b,a,H⟩
structure gy (K:Frag)(cs:bU)(top:Str):Prop where
 exc:∀nm,cs.contains nm=true->UZ K top nm
 top_at:ko K top (.ref (clsAt K top))
 top_exc:Mi.ZK K (clsAt K top) VE Vu=true
 non:kitOne K (.type "NoneType") (.type "ValueError")=some false
def iA (h:cs.all (XO K top ·)=true)(t:Si K top=true):gy K cs top:=by unfold Si at t;simp only[ak,aL]at t;obtain⟨⟨b,T⟩,a⟩:=t;exact⟨λnm e=>iz (cw.mp h nm (List.contains_iff_mem.mp e)),TF b,T,a⟩
def gy.isx (c:gy K cs top)(h:Ja K cs x=true):Wv K (yY cs x) (.ref (clsAt K x)):=by
 unfold Ja at h;simp only[ak,aL]at h;obtain⟨⟨g,f⟩,a⟩:=h;refine⟨f,λnm C b e H=>?_⟩;unfold yY at e
 by_cases d:cs.contains nm=true
 ·rw[ai d]at e
  cases e;cases U6 H;exact⟨(c.exc nm d).kit,aL.mp (cw.mp a nm (List.contains_iff_mem.mp d))⟩
 ·rw[aj d]at e;cases e
def kJ (h:Ja K cs x=true):ko K x (.ref (clsAt K x)):=by unfold Ja at h;simp only[ak,aL]at h;exact TF h.1.1
def gy.isv (c:gy K cs top):Wv K (RP cs) (.type "ValueError"):=by
 refine⟨c.non,λnm C b e h=>?_⟩;unfold RP at e
 by_cases H:cs.contains nm=true
 ·rw[ai H]at e
  cases e;cases U6 h;exact⟨(c.exc nm H).kit,(c.exc nm H).val⟩
 ·rw[aj H]at e;cases e
def gy.under (c:gy K cs top):∀nm,cs.contains nm=true->∀C,ko K nm (.ref C)->∃b n,Mi.ZK K C b n=true/\J5 K C (clsAt K top)=true:=λnm H C h=>by cases U6 h;exact⟨_,_,(c.exc nm H).exc,(c.exc nm H).up⟩
end
noncomputable def JS (M:bU)(S:Scope)(t:Lm):Bool:=t.idx.length==t.N.length&&((List.range t.N.length).all λi=>match t.N[i]?,t.idx[i]? with|some x,some j=>M[j]?==some x&&t.scope.names.lookup x==some .free|_,_=>false)&&t.scope.names.all λy=>!(y.2==.free) || (S.names.lookup y.1==some .cell || S.names.lookup y.1==some .free)
def Wg {t:Lm}(h:JS X.N X.env.scope t=true):Vq X t:=by
 unfold JS at h;rw[ak,ak]at h;obtain⟨⟨f,d⟩,b⟩:=h;refine⟨aL.mp f,λi x j E c=>?_,λy H e=>?_⟩
 ·have a:i<t.N.length:=(cm.mp E).1
  have q:=cw.mp d i (cj.mpr a);rw[E,c]at q;dsimp only at q;rw[ak]at q;exact⟨aL.mp q.1,aL.mp q.2⟩
 ·have q:=cw.mp b y H
  rw[e]at q;rw[a3,a3]at q;rcases q with q|q|q
  ·cases q
  ·exact .inl (aL.mp q)
  ·exact .inr (aL.mp q)
def iB {q:Str}{l:List Lm}{k:Nat}{t:Lm}(H:l[k]? =some t):wB env q l k=Vh q t.params t.body t.scope (kK env t.scope.names []):=by
 funext ob c o vs
 refine propext ⟨λ⟨T,e,h⟩=>?_,λh=>⟨t,H,h⟩⟩;rw[H]at e;cases e;exact h
section
variable {k:Nat}{q:Str}{ls:List Lm}{t:Lm}
def NJ (i:ls[k]? =some t)(L:JS X.N X.env.scope t=true)(B:BMain X.mg X.base)(a:X.env.code=.ref c)(C:CodeHd X.base c Pt)(d:X.env.qual ++ "<lambda>"=q)(f:defaultsOf t.params X.env=([],[])):
  SE X xr (.Lambda t.params t.body t.scope o6) (wO n q Pt k (wB X.env q ls k)):=by
 intro p s g H Q I h;rw[iB i]at h;exact iw B a C (Oa λy b e=>I.ok.has _ ((Wg L).free y b e)) d f p s g H Q I h
end
noncomputable def ZF:Stmt:=.Pass ⟨0,0,0,0⟩
noncomputable def QD:Expr:=.Constant .none 0 ⟨0,0,0,0⟩
def J1 (s:Stmt)(i:Nat):Stmt:=match s with|.For _ _ b _ _=>b.getD i ZF|.If _ b _ _=>b.getD i ZF|.While _ b _ _=>b.getD i ZF|_=>ZF
def Ro (s:Stmt):Expr:=match s with|.Assign _ v _=>v|.Expr v _=>v|.Return (some v) _=>v|_=>QD
def JU (e:Expr)(i:Nat):Expr:=match e with|.Call _ a _ _=>a.getD i QD|.List E _=>E.getD i QD|.Tuple E _ _=>E.getD i QD|.BinOp a _ b _=>if i=0 then a else b|_=>QD
noncomputable def iC (e:Expr):Arguments:=match e with|.Lambda a _ _ _=>a|_=>{ posonlyargs:=[],args:=[],vararg:=none,kwonlyargs:=[],kw_defaults:=[],kwarg:=none,defaults:=[] }
def iD (e:Expr):Expr:=match e with|.Lambda _ b _ _=>b|_=>QD
noncomputable def iE (e:Expr):Scope:=match e with|.Lambda _ _ s _=>s|_=>{ kind:=.function,names:=[],isGenerator:=false,isCoroutine:=false }
def JV (e:Expr)(N:bU)(i:bT)(m:Ev):Lm:=⟨N,i,iC e,iD e,iE e,m⟩
def iF {w:World}{K:Frag}{S:Stmt}{ps:bU}{k:Nat}(F:kS K x x S f fd)(e:mg x=some (.ref f))
  (b:∀(kV d p:Value)(n:b9)(c ct:Value)(u:bQ),u.length=ps.length->bindArgs (fnOf x x (Zd S) (jO S) (qc S) .none kV d p n c ct) ⟨u,[]⟩=pure (ps.zip u)):qK P w K mg base k x ps.length (λ_ _=>.bad):=
 ⟨f,fd,ps,⟨λv H Q E h=>h.1,λA o s H a u v Q E _ _ _ _ h=>by obtain⟨_,_,_,_,_,_,z⟩:=h;exact z.elim⟩,e,F.kp,F.binds b⟩
def iG {K:Frag}(t a b:Ty):kitAny K (.type t.nm) [.type a.nm,.type b.nm]=some (kq t a || kq t b):=by
 unfold kitAny;rw[Xh];cases kq t a with
 |true=>rfl|false=>
  dsimp only;unfold kitAny;rw[Xh];cases kq t b<;>rfl
section
variable {a b:Expr}{m ma mb:Ev}
def Yc.kitx {s:Shared}{x:V}{t:Ty}(I:Inv X o5 σ H s)(r:RelV x u)(h:Yc X.K H x t):∃b:Heap->Prop,PySem.W.KitX X.K u (.type t.nm) b/\b s.heap/\u≠.builtin "__main__.__loader__#opaque":=by
 rcases h with h|⟨a,xs,rfl,h,rfl⟩
 ·generalize hT:Value.type t.nm=T at h
  cases h with
  |non=>cases (show u=Value.none from r);exact⟨_,kitx_none,True.intro,λz=>nomatch z⟩
  |bl y=>cases (show u=Value.bool y from r);exact⟨_,kitx_bool,True.intro,λz=>nomatch z⟩
  |int i=>obtain⟨t,q⟩:=(show ∃t,u=Value.int i t from r);cases q;exact⟨_,kitx_int,True.intro,λz=>nomatch z⟩
  |str y=>obtain⟨t,q⟩:=(show ∃t,u=Value.str y t from r);cases q;exact⟨_,kitx_str,True.intro,λz=>nomatch z⟩
  |flt y=>obtain⟨t,q⟩:=(show ∃t,u=Value.float y t from r);cases q;exact⟨_,kitx_float,True.intro,λz=>nomatch z⟩
  |@lst a xs ea=>
   cases (show u=Value.ref a from r)
   obtain⟨_,_,n,_,d⟩:=(show qV X.prog X.w H s.heap a (.lst xs) from I.hok a _ ea)
   exact⟨_,kitx_list,⟨_,d,rfl⟩,λz=>nomatch z⟩
  |@frz a ob xs ea=>
   cases (show u=Value.ref a from r)
   obtain⟨_,_,_,n,_,d⟩:=(show qV X.prog X.w H s.heap a (.frz ob (.lst xs)) from I.hok a _ ea)
   exact⟨_,kitx_list,⟨_,d,rfl⟩,λz=>nomatch z⟩
  |@tup a xs ea=>
   cases (show u=Value.ref a from r)
   obtain⟨_,_,_,p⟩:=(show qV X.prog X.w H s.heap a (.tup xs) from I.hok a _ ea)
   obtain⟨o,d,e,_⟩:=p;exact⟨_,kitx_tuple,⟨o,d,e.1⟩,λz=>nomatch z⟩
  |@dK a kvs ea=>
   cases (show u=Value.ref a from r)
   obtain⟨_,_,_,_,o,_,_,d,e,_⟩:=(show qV X.prog X.w H s.heap a (.dK kvs) from I.hok a _ ea)
   exact⟨_,kitx_dict,⟨o,d,e.1⟩,λz=>nomatch z⟩
  |@dT a kvs ea=>
   cases (show u=Value.ref a from r)
   obtain⟨_,_,_,_,o,_,_,d,e,_⟩:=(show qV X.prog X.w H s.heap a (.dT kvs) from I.hok a _ ea)
   exact⟨_,kitx_dict,⟨o,d,e.1⟩,λz=>nomatch z⟩
  |ins=>cases hT
 ·cases (show u=Value.ref a from r)
  obtain⟨c,_,⟨o,d,e,_⟩,_⟩:=I.tuple h;exact⟨_,kitx_tuple,⟨o,d,e⟩,λz=>nomatch z⟩
def iH (K:Frag)(a b:Ty):List V->Hp->VK->Prop:=λX H Q=>∃x t l,X=[x,.ref l]/\qz K H l [.ty (Ty.nm a),.ty (Ty.nm b)]/\Yc K H x t/\Q (.bl (kq t a || kq t b)) H
def CG {a b:Ty}:yw X (.builtin "isinstance") (iH X.K a b):=by
 intro P s S H Y us Q I r h;obtain⟨x,t,l,rfl,A,J,q⟩:=h;obtain⟨u,e,rfl,f,c⟩:=vals2 r;cases (show e=Value.ref l from c)
 obtain⟨p,v,⟨o,M,L,k,B⟩,_⟩:=I.tuple A;obtain⟨d,U,rfl,i,g⟩:=vals2 v;cases (show d=Value.type a.nm from i)
 cases (show U=Value.type b.nm from g)
 obtain⟨E,Z,y,N⟩:=J.kitx I f;obtain⟨n,D,j,C⟩:=o;cases (show n=_ from L)
 cases (show j=_ from B)
 exact PySem.W.kia_tup Z I.kIn y M (iG t a b) N λT=>⟨.bl (kq t a || kq t b),H,I.tok T,rfl,q⟩
def L5 (t T:Ty)(m:Ev):Ev:=λc A=>(m c A).bind λw b=>match jq w b with
 |some a=>.ok (.bl (kq a t || kq a T)) b
 |none=>.bad
def Ke (m:Ev)(t:Tg):Ex:=λb A=>(m b A).bind λw c=>match t w b with|some a=>.ok (.nx a) c|none=>.bad
def iI (i j:Nat)(b M:Ev):Ex:=λa A=>(b a A).bind λx d=>(M a d).bind λy c=>.ok (.nx ((a.set i (some x)).set j (some y))) c
end
open Classical in
def JA:W->W->Hx->R W:=λx y A=>match x,y with
 |.ref n,.ref k=>match A[n]?,A[k]? with|some (.lst ws),some (.lst us)=>if ws.length+us.length<=zX then .ok .non (A.set n (.lst (ws++us))) else .bad|_,_=>.bad
 |_,_=>.bad
def DC:∀x y A,qW (JA x y A):=λx y A=>by
 unfold JA
 split
 ·split
  ·exact Z5 j5 jc
  ·exact jc
 ·exact jc
section
variable {prog:Program}{w:World}{A:Around}{s:Shared}
noncomputable abbrev ZJ (l:Bool):Obj:={ cls:=.type "set",dict:=none,data:=.set #[] 0 (.fresh 0 0 l) }
noncomputable abbrev QK (n:bP)(k:Nat):bP:=firstMet (λi=>n.getD i 0) k
def F2 {L:Bool}{t:Addr}(q:A.handled=none)(Y:s.heap.IsTuple t o9.toArray)(j:IntsAre o9 ns)(r:o9.length+1<scanBound)
  (h:∀(J:Heap)(d:Nat),J.SetOf (intKind prog w) s.heap.objs.size (λk=>(QK ns o9.length).any (·==k)) (QK ns o9.length).length->
   (∀b o,b<s.heap.objs.size->s.heap.get? b=some o->J.get? b=some o)->Q .none { s with heap:=J,toks:=d }):
  codeAny (model prog w) A (.call (.builtin "set.__init__") ⟨[.ref s.heap.objs.size,.ref t],[]⟩) (wants Q E) { s with heap:=s.heap.push (ZJ L) }:=by
 have gS:(s.heap.push (ZJ L)).get? s.heap.objs.size=some (ZJ L):=aC _ rfl;refine codeAny_call_builtin F.called_set.init.plain F.entry_set_init (check_set_init_1 ⟨_,gS,rfl⟩ ?_);obtain⟨ob,P,K,n,H⟩:=Y;obtain⟨C,B,g,f⟩:=ob;dsimp only at K H;cases K;cases H;have Z:=af (ZJ L) P;have n1:=F.sub_tuple_set;have D:=F.sub_tuple_frozenset;have N:(Value.type "tuple" == Value.type "dict")=false:=by decide
 have T1:(s.heap.push (ZJ L)).IsTuple t o9.toArray:=⟨_,Z,rfl,n,rfl⟩;unfold Builtin.«set.__init__» noKeywords Builtin.Frozenset.updateFrom;generalize p:pyIter=PI
 wp_walk
 subst p;refine wpAny_pyIter_tuple T1 (cf (wpAny_runValue ?_));have lt:t<s.heap.objs.size:=aM P;have sz:(s.heap.push (ZJ L)).objs.size=s.heap.objs.size+1:=bj ..;have X:t≠(s.heap.push (ZJ L)).objs.size:=by rw[sz];exact aO (bc lt)
 have W:=(Walks.tuple (prog:=prog) (w:=w) (A:=A.in1.in1) (by simp[q]) (s.heap.push (ZJ L)).objs.size t X o9.toArray).toS
 have c:o9.toArray.size=o9.length:=aB;rw[c]at W;have off:s.heap.objs.size∉[(s.heap.push (ZJ L)).objs.size,t]:=by
  rw[sz];intro I;rcases cn.mp I with z|I
  ·exact aO (bx _) z
  ·exact ne_of_gt lt (cx.mp I)
 refine codeAny_set_update_loopS W s.heap.objs.size off (λi=>ns.getD i 0) (λi v e=>IntsAre.int_at j i v (by simpa using e)) r o9.length 0 _ rfl (zero_le _) ⟨⟨_,aC _ rfl,rfl,rfl⟩,T1.push _⟩ ?_ ?_
 ·exact SetOf_congr ((setObjOf_fresh (knd:=intKind prog w) L).setOf (af _ gS) (by unfold scanBound;lia)) (λ_=>rfl) rfl
 ·intro U M S
  obtain⟨J,g',d',T,a⟩:=U;have y:g'=s.gens:=M.gens;have x:d'=s.drawn:=M.drawn;have u:a=s.os:=M.os;subst y x u;refine cg ?_;show wpAny _ _ (ret Value.none) _ _ _;refine cg (h J T S λb o l e=>M.heap b o (λI=>?_) (af _ (af _ e)));rcases cn.mp I with z|I
  ·exact aO l z
  ·exact aO (bc l) ((cx.mp I).trans sz)
def FO {t:Addr}(l:A.handled=none)(N:s.heap.IsTuple t o9.toArray)(j:IntsAre o9 ns)(n:o9.length+1<scanBound)
  (h:∀(I:Heap)(a:Nat),I.SetOf (intKind prog w) s.heap.objs.size (λk=>(QK ns o9.length).any (·==k)) (QK ns o9.length).length->
   (∀b o,b<s.heap.objs.size->s.heap.get? b=some o->I.get? b=some o)->Q (.ref s.heap.objs.size) { s with heap:=I,toks:=a }):
  wpAny (model prog w) A (call (.type "set") [.ref t]) Q E s:=by
 obtain⟨c,q,g⟩:=F.called_set.mro;have P:=F.called_set.made;have a2:=F.called_set.sub;have D:=F.called_set.notType;have C:=F.called_set.canCreate;have y:=F.typeCall_set_1 (.ref t);refine wpAny_call (codeAny_of_tree ?_);show wpAny _ _ (callAny (.type "set") _) _ _ _;refine cg ⟨Code.quiet_builtin _ (by decide +kernel),codeAny_builtin F.entry_type_call ?_⟩
 rw[Around.under_plain (weight_type_call_type "set" [.ref t] []) rfl]
 repeat (any_goals (first|assumption|wp_step))
 refine codeAny_mono (code_set_new_1 (.ref t) (E:=E) (Q₁:=λu M=>∃L,u=.ref s.heap.objs.size/\M={ s with heap:=s.heap.push (ZJ L) }) λL=>⟨L,rfl,rfl⟩) λr M d=>?_
 cases r with
 |error e=>exact d|ok p=>
  cases p with
  |ret u=>
   obtain⟨L,rfl,rfl⟩:=d;have T:Shared.TypeIs { s with heap:=s.heap.push (ZJ L) } (.ref s.heap.objs.size) "set":=⟨_,aC _ rfl,rfl⟩
   have x:=F.called_set.init.lookup;have B:=F.called_set.init.bind (.ref s.heap.objs.size)
   repeat (any_goals (first|assumption|wp_step))
   refine codeAny_mono (F2 (E:=E) (Q:=λv J=>v=.none/\∃I a,J={ s with heap:=I,toks:=a }/\I.SetOf (intKind prog w) s.heap.objs.size (λk=>(QK ns o9.length).any (·==k)) (QK ns o9.length).length/\
    ∀b o,b<s.heap.objs.size->s.heap.get? b=some o->I.get? b=some o) (by simp[l]) N j n λI a S K=>⟨rfl,I,a,rfl,S,K⟩) λi J H=>?_
   cases i with
   |error e=>exact H|ok f=>
    cases f with
    |ret v=>
     obtain⟨rfl,I,a,rfl,S,K⟩:=H
     repeat (any_goals (first|assumption|wp_step))
     exact h _ _ S K
    |_=>exact H.elim
  |_=>exact d.elim
end
def intsAre_of:∀{N:bP}{i:bQ},Vals (N.map V.int) i->IntsAre i N:=by
 intro N
 induction N with
 |nil=>intro i h;cases h;exact .nil|cons n N I=>
  intro i h;cases h with|cons r t=>obtain⟨T,rfl⟩:=r;exact .cons n T (I t)
section
variable {m:Ev}
abbrev LV (n:bP):HO:=.set (λk=>(QK n n.length).any (·==k)) (QK n n.length).length
def iJ (K:Frag):List V->Hp->VK->Prop:=λx H Q=>∃p n,x=[.ref p]/\qz K H p (n.map V.int)/\n.length<=100/\∀l,H l=none->Q (.ref l) (upd H l (LV n))
def D4 (d:X.calm=true):yw X (.type "set") (iJ X.K):=by
 intro g s j H x U Q I r h;obtain⟨p,N,rfl,c,f,q⟩:=h;obtain⟨u,rfl,a⟩:=vals1 r;cases a;obtain⟨i,v,P,_⟩:=I.tuple c;have n:i.length=N.length:=by have:=v.length;rw[ag]at this;lia
 refine FO (I.ok.hd d) P (intsAre_of v) (by unfold scanBound;lia) λl t S kp=>?_
 rw[n]at S;exact⟨.ref s.heap.objs.size,_,I.laid (t':=t) (o:=LV N) (λb o e=>kp b o (aM e) e) (aq _) S,rfl,q _ (I.hok.fresh (aq _))⟩
def Cr:yw X (.builtin "len") (λxs H Q=>∃p S n,xs=[.ref p]/\H p=some (.set S n)/\n<=100/\Q (.int n) H):=by
 intro P s j H xs U Q I r h;obtain⟨p,S,n,rfl,b,d,q⟩:=h;obtain⟨u,rfl,a⟩:=vals1 r;cases a;obtain⟨o,e,E,t,c,x,i,_,_,_,g,f⟩:=(show qV X.prog X.w H s.heap p (.set S n) from I.hok p _ b)
 subst f;exact call_len_set c x i g (by lia) ⟨.int e.size,H,I.tok _,⟨_,rfl⟩,q⟩
def N7:W->Hx->R W:=λw A=>match w with
 |.tup a=>match intsOf a with|some n=>if n.length<=100 then .ok (.int (QK n n.length).length) A else .bad|none=>.bad
 |_=>.bad
def Ar (m:Ev):Ev:=λa A=>(m a A).bind λw b=>N7 w b
end
def Vi (s:Stmt):Expr:=match s with|.If t _ _ _=>t|_=>QD
section
def iK:=ZO Vd λi j=>.int (i * 2 ^ j.toNat)
end
def I9:fillsNumberSlot (.type "tuple") "mul"=pure false:=
 PySem.fillsNumberSlot_seq (id := "tuple.__mul__") (r:=some (.builtin "tuple.__rmul__")) F.slot_tuple_mul.lookup (by decide +kernel) F.slot_tuple_rmul.lookup (by decide +kernel)
def Ed:seqRepeat? (.type "tuple")=pure (some (.builtin "tuple.__mul__")):=by
 unfold seqRepeat?;rw[PySem.seqSlot_of (T := "tuple") (name := "__mul__") (id := "tuple.__mul__") F.slot_tuple_mul.lookup (by decide +kernel),PySem.seqSlot_of (T := "tuple") (name := "__rmul__") (id := "tuple.__rmul__") F.slot_tuple_rmul.lookup (by decide +kernel)]
 rfl
def F9 (a:Int)(t:Tok)(l:Addr)(o:b9)(i:Array Value)(n:Nat)(S:Array (Option Value)):
  Meets (Builtin.«int.__rmul__» ⟨[.int a t,.ref l],[]⟩) (λ_ R s=>s.heap.get? l=some ⟨.type "tuple",o,.seq i n,S⟩/\R (.ok (.ret Value.notImplemented)) s):=
 .of_wp λp w A R s h=>by
  obtain⟨H,g,d,T,c⟩:=s;obtain⟨b,h⟩:=h
  wp_walk
  exact⟨_,rfl,h⟩
def DZ (k:Int)(t:Tok)(l:Addr)(o:b9)(I:Array Value)(n:Nat)(S:Array (Option Value))(C:2<=k)(j:k<1000)(i:0<I.size)(c:I.size<1000):
  Meets (Builtin.«tuple.__mul__» ⟨[.ref l,.int k t],[]⟩) (λ_ R s=>s.heap.get? l=some ⟨.type "tuple",o,.seq I n,S⟩/\R (.ok (.ret (.ref s.heap.objs.size))) { s with heap:=s.heap.push { cls:=.type "tuple",data:=.seq ((List.replicate k.toNat I).foldl (·++·) #[]) } }):=
 .of_wp λP w A R s h=>by
  obtain⟨p,g,d,T,y⟩:=s;obtain⟨f,h⟩:=h;have u:I.isEmpty=false:=by
   cases he:I.isEmpty with|false=>rfl|true=>rw[Array.isEmpty_iff_size_eq_zero]at he;lia
  have r:(k==1)=false:=by rw[beq_eq_false_iff_ne];lia
  have b:(decide (k < -2 ^ 63) || decide (k ≥ 2 ^ 63))=false:=by rw[Bool.or_eq_false_iff,decide_eq_false_iff_not,decide_eq_false_iff_not];lia
  have q:decide (k<=0)=false:=by rw[decide_eq_false_iff_not];lia
  have B:(I.size:Int) * k<=1000 * 1000:=Int.mul_le_mul (by lia) (by lia) (by lia) (by lia)
  have a:¬(I.size:Int) * k > (2 ^ 63-1)/8:=by lia
  have E:Builtin.Tuple.tupleTooMany ((I.size:Int) * k)=false:=by
   unfold Builtin.Tuple.tupleTooMany
   have:sizeLine=16777216:=sizeLine_eq
   rw[decide_eq_false_iff_not];lia
  wp_walk
  rw[b];rw[aj (by decide)]
  dsimp only
  wp_walk
  rw[aj a,E,aj (by decide)]
  have H:(List.foldl (λX x=>X++x) #[] (List.replicate k.toNat I)).size<=sizeLine:=by
   have v:=foldl_rep I.toList k.toNat [];rw[bK]at v;have e:I.toList.toArray=I:=by simp
   rw[e]at v;rw[v,aB,len_rep]
   have:sizeLine=16777216:=sizeLine_eq
   have:k.toNat * I.toList.length<=1000 * 1000:=mul_le_mul (by lia) (by rw[length_toList];lia)
   lia
  refine cf (m:=Builtin.Tuple.tupleExact _) (wpAny_newObj_type ?_ H);exact cg ⟨_,rfl,h⟩
section
variable {K:Frag}{b:Expr}
def Lj (K:Frag):R2:=λx y H Q=>∃l k X,x=.ref l/\y=.int k/\qz K H l X/\2<=k/\k<1000/\0<X.length/\X.length<1000/\
 ∀p,H p=none->Q (.ref p) (upd H p (.tup (List.replicate k.toNat X).flatten))
def iM:qS X (binaryOp .Mult) (Lj X.K):=by
 intro P s σ H x y v u Q I f e h;obtain⟨l,k,C,rfl,rfl,g,Z,Y,B,A,q⟩:=h;cases f;obtain⟨t,rfl⟩:=e;obtain⟨i,r,p,_⟩:=I.tuple g;obtain⟨⟨cls,J,data,S⟩,a,d,n,E⟩:=id p;simp only at d E;subst d E;have c:List.foldl (λM L=>M++L) #[] (List.replicate k.toNat i.toArray)=(List.replicate k.toNat i).flatten.toArray:=by
  have:=foldl_rep i k.toNat []
  rw[bK]at this;exact this
 have D:=r.length;refine wpAny_binaryOp_repeat_ref (T := "tuple") (U := "int") (by decide) ⟨_,a,rfl⟩ (λN=>typeIs_int N k t) I9 F.fills_int_mul F.slot_int_rmul Ed F.slot_int_index.lookup
  (call_meets F.slot_int_rmul (typeIs_int s k t) F.entry_int_rmul (F.args_int_rmul_2 _ _) (F9 k t l J i.toArray n S)
   ⟨a,rfl,⟨_,a,rfl⟩,call_meets F.slot_tuple_mul ⟨_,a,rfl⟩ F.entry_tuple_mul (F.args_tuple_mul_2 _ _) (DZ k t l J i.toArray n S Z Y (by rw[aB];lia) (by rw[aB];lia)) ⟨a,?_⟩⟩)
 rw[c];refine⟨.ref s.heap.objs.size,_,I.laid (t':=s.toks) (o:=.tup (List.replicate k.toNat C).flatten) (λb ob q=>af _ q) (aq _) ?_,rfl,q _ (I.hok.fresh (aq _))⟩;refine⟨?_,_,r.rep k.toNat,Z6.new _ _⟩;rw[len_rep];have j:sizeLine=16777216:=sizeLine_eq
 have:k.toNat * C.length<=1000 * 1000:=mul_le_mul (by lia) (by lia)
 lia
def JR:W->W->Hx->R W:=λx y A=>match x,y with|.tup X,.int k=>if decide (2<=k)&&(decide (k<1000)&&(decide (0<X.length)&&decide (X.length<1000))) then .ok (.tup (List.replicate k.toNat X).flatten) A else .bad|_,_=>.bad
def iN:∀x y A,qW (JR x y A):=λx y A=>by
 unfold JR
 split
 ·exact Z5 j5 jc
 ·exact jc
def Bb:yB K (Lj K) JR:=λf A H x y u v Q S b q p=>by
 cases u with
 |tup X=>cases v with
  |int j=>
   obtain⟨e,a,rfl,t,r⟩:=b;obtain rfl:=q;unfold JR at p;dsimp only at p
   by_cases h:(decide (2<=j)&&(decide (j<1000)&&(decide (0<X.length)&&decide (X.length<1000))))=true
   ·rw[ai h]at p
    simp only[ak,ao]at h;refine⟨e,j,a,rfl,rfl,t,h.1,h.2.1,by rw[<- r.length];exact h.2.2.1,by rw[<- r.length];exact h.2.2.2,λl c=>?_⟩
    obtain⟨c1,d,C⟩:=Qy S c (r.rep j.toNat);exact p _ _ _ c1 d C
   ·rw[aj h]at p;exact p.elim
  |_=>exact p.elim
 |_=>cases v<;>exact p.elim
end
section
open PySem.SeqAt
open PySem.AutoSeq1 (wpAny_loadPart')
open PySem.MeetsSeq PySem.MeetsSeq2 PySem.MeetsSeq3
end
open PySem
open PySem PySem.Spec PyProof.Rows
namespace F
end F
section
theorem Om:∀{N:bP}{i:bQ},IntsAre i N->Vals (N.map V.int) i
 |_,_,.nil=>.nil|_,_,.cons n t h=>.cons ⟨t,rfl⟩ (Om h)
end
section
variable {K:Frag}
theorem zC.app:∀{a u:List W}{x y:List V},zC K φ H a x->zC K φ H u y->zC K φ H (a++u) (x++y)
 |[],_,_,_,h,h2=>by cases h;exact h2|w::a,_,_,_,⟨v,r,e,h,t⟩,h2=>by subst e;exact⟨v,_,rfl,h,zC.app t h2⟩
variable {prog:Program}{w:World}{A:Around}{s:Shared}
def II {t S:Addr}{l v:Value}{L i:bX}(e:IsTup s.heap t items)(c:s.heap.IsSliceOf S l v .none)(p:IsPart l L)(P:IsPart v i)
  (f:HT.qk items.size 0 L=0/\HT.qk items.size items.size i=items.size)(h:Q (.ref t) s):wpAny (model prog w) A (getItem (.ref t) (.ref S)) Q E s:=by
 obtain⟨o,H,a,d⟩:=id c;have b:s.TypeIs (.ref S) "slice":=⟨o,H,a⟩;unfold getItem
 try with_reducible refine wpAny_holding ?_
 first|refine cf (cg ?_)|skip
 refine cf (wpAny_sequenceKey e.typeIs (by decide) ?_)
 refine cf (wpAny_callSpecial?_slot (name:=Str.ofString "__getitem__") e.typeIs PyProof.Rows.slot_tuple_getitem
  (wpAny_call_entry PyProof.Rows.slot_tuple_getitem e.typeIs PyProof.Rows.entry_tuple_getitem ?_ (PyProof.Rows.args_tuple_getitem _ _)))
 show wpAny _ _ (Builtin.Tuple.tupleItemsOf (.ref t) >>= _) _ _ s;refine cf (PyProof.Rows.tupleItemsOf_ e ?_);refine cf (wpAny_typeOf b ?_);rw[ai (by decide)]
 refine cf (HT.R1 c p P ?_);show wpAny _ _ (if (((HT.qk items.size 0 L:Nat):Int)==0&&(1:Int)==1&&(HT.qk items.size items.size i-HT.qk items.size 0 L)==items.size)=true then _ else _) _ _ s;rw[ai (by rw[f.1,f.2];simp)]
 unfold Builtin.Tuple.tupleIsExact;refine cf (cf (wpAny_typeOf e.typeIs (cg ?_)));rw[ai (by decide)]
 refine cf (wpAny_rule ?_)
 first
  |exact cg ⟨_,rfl,cg h⟩
  |exact cf (cg (cg ⟨_,rfl,cg h⟩))
end
section
variable {a:Expr}{m:Ev}{lo hi:Option Expr}{K:Frag}
def LG (K:Frag):V->Option Int->Option Int->Hp->VK->Prop:=λx l h H Q=>∃a X,x=.ref a/\qz K H a X/\
 ((HT.qk X.length 0 l=0/\HT.qk X.length X.length h=X.length)->Q (.ref a) H)/\
 (¬(HT.qk X.length 0 l=0/\HT.qk X.length X.length h=X.length)->∀p,H p=none->Q (.ref p) (upd H p (.tup (ZI X l h))))
def AN:W5 X (LG X.K):=by
 intro P s A H x v l u L e S Q I b d p t h;obtain⟨a,j,rfl,c,f,q⟩:=h
 by_cases o:HT.qk j.length 0 L=0/\HT.qk j.length j.length e=j.length
 ·cases b
  obtain⟨i,r,y,g⟩:=I.tuple c;have n:i.toArray.size=j.length:=by rw[aB];exact r.length.symm
  exact⟨"tuple",_,PyProof.Rows.slot_tuple_getitem.lookup,y.typeIs,II y d p t (by rw[n];exact o) ⟨.ref a,H,I,rfl,f o⟩⟩
 ·exact ed P s A H _ v l u L e S Q I b d p t ⟨a,j,rfl,c,o,q o⟩
abbrev Po:=En->Hx->R (bX)
noncomputable def Qh:Po:=λ_ A=>.ok none A
def ku (m:Ev):Po:=λa A=>(m a A).bind λw b=>match w with|.int i=>.ok (some i) b|_=>.bad
def yG (a:List W)(l h:bX):List W:=(a.drop (HT.qk a.length 0 l)).take (HT.qk a.length a.length h-HT.qk a.length 0 l)
inductive MP (K:Frag)(xr:XR)(p:Po)(σ:St)(H:Hp)(Q:Option Int->Hp->Prop):Prop
 |mk (φ:bR) (A:Hx) (ρ:En) (S:zL K φ A H) (re:RE K φ H ρ σ) (h:(p ρ A).post (λo A1=>∀oU H1,Le K φ H oU H1->zL K oU A1 H1->Q o H1) (EB K φ H xr))
def tP (K:Frag)(x:XR)(p:Po):TO:=λa H Q=>MP K x p a H Q
def SP (X:Cx)(x:XR)(e:Option Expr)(p:Po):Prop:=PO X e (tP X.K x p)
def PO.imp {e:Option Expr}{t T:TO}(h:PO X e t)(i:∀σ H Q,T σ H Q->t σ H Q):PO X e T:=λp s σ H Q I a=>h p s σ H Q I (i σ H Q a)
def Sn (b:SE X xr e m):SP X xr (some e) (ku m):=PO.imp (d8 b) λj H Q ⟨g,A,n,S,r,h⟩=>by
 refine tM.go S r (zV.mp h) λw o a f v d l c q=>?_;cases w with|int i=>obtain rfl:=q;exact⟨i,rfl,d a f l c⟩|_=>exact d.elim
end
def O6 (x:Array Value):((List.range x.size).filterMap λ(k:Nat)=>x[(((x.size:Int)-1)+(k:Int) * (-1)).toNat]?).toArray=x.toList.reverse.toArray:=by
 congr 1
 have e:∀k,k<x.size->x[(((x.size:Int)-1)+(k:Int) * (-1)).toNat]? =some (x.toList.reverse.getD k .none):=λk h=>by
  have b:(((x.size:Int)-1)+(k:Int) * (-1)).toNat=x.size-1-k:=by lia
  rw[b,aa,List.getElem?_reverse (by simpa using h),Array.getElem?_toList,length_toList,Array.getElem?_eq_getElem (by lia)]
  rfl
 have E:((List.range x.size).filterMap λ(k:Nat)=>x[(((x.size:Int)-1)+(k:Int) * (-1)).toNat]?)=(List.range x.size).map λk=>x.toList.reverse.getD k .none:=by
  have a:∀l:bT,(∀k∈l,k<x.size)->(l.filterMap λ(k:Nat)=>x[(((x.size:Int)-1)+(k:Int) * (-1)).toNat]?)=l.map λk=>x.toList.reverse.getD k .none:=by
   intro l
   induction l with
   |nil=>intro _;rfl|cons k l I=>
    intro h;rw[ba,e k (h k (aF ..)),aR,I λj H=>h j (az _ H)]
  exact a _ λk h=>cj.mp h
 rw[E]
 apply a8
 ·simp
 ·intro i b c
  rw[getElem_map,getElem_range,aa,ae c]
  rfl
section
variable {K:Frag}
def Pz (h:Vals xs us):Vals xs.reverse us.reverse:=by
 induction h with|nil=>exact .nil|cons r t i=>rw[bH,bH];exact i.append (.cons r .nil)
theorem zC.rev:∀{a:List W}{b:List V},zC K φ H a b->zC K φ H a.reverse b.reverse
 |[],_,h=>by cases h;rfl|w::a,_,⟨v,r,e,h,t⟩=>by subst e;rw[bH,bH];exact zC.app (zC.rev t) ⟨v,[],rfl,h,rfl⟩
end
noncomputable def X9 (_ j:Int):Bool:=decide (0<j)&&decide (j<1152921504606846976)
def Lu (i j:Int):Prop:=0<j/\j<1152921504606846976
def Aa (i j:Int)(h:X9 i j=true):Lu i j:=by unfold X9 at h;rw[ak]at h;exact⟨of_decide_eq_true h.1,of_decide_eq_true h.2⟩
def CT:qS X (binaryOp .FloorDiv) (rI Lu λi j=>.int (i/j)):=Kz λi j _ _ _ _ _ h q=>by
 have b:(0:Int)<j:=h.1;have a:j<1152921504606846976:=h.2;refine floordiv_int (by lia) (by rw[Int.fdiv_eq_ediv_of_nonneg i (by lia)];exact q) (.inl (PyProof.noPylong_of_log2 ?_))
 have H:j.natAbs≠0:=by lia
 have:j.natAbs.log2<60:=(Nat.log2_lt H).mpr (by lia)
 lia
def X8:=ZO X9 λi j=>.int (i/j)
def WK (e:Expr):Expr:=match e with|.Compare l _ _ _=>l|_=>QD
end Mi
namespace PySem.SeqAt
open PySem
end PySem.SeqAt
namespace Mi
open PySem PySem.Spec PyProof.Rows L2
section
variable {prog:Program}{w:World}{A:Around}{s:Shared}
def IQ {t S:Addr}{T:Tok}(l:IsTup s.heap t items)(g:s.heap.IsSliceOf S .none .none (.int (-1) T))
  (h:Q (.ref s.heap.objs.size) { s with heap:=s.heap.push { cls:=.type "tuple",data:=.seq items.toList.reverse.toArray } })(c:items.size<=sizeLine):wpAny (model prog w) A (getItem (.ref t) (.ref S)) Q E s:=by
 obtain⟨o,a,d,b⟩:=id g;have e:s.TypeIs (.ref S) "slice":=⟨o,a,d⟩;have H:sizeOk (.seq items.toList.reverse.toArray):=by show items.toList.reverse.toArray.size<=sizeLine;simpa using c
 unfold getItem
 try with_reducible refine wpAny_holding ?_
 first|refine cf (cg ?_)|skip
 refine cf (wpAny_sequenceKey l.typeIs (by decide) ?_)
 refine cf (wpAny_callSpecial?_slot (name:=Str.ofString "__getitem__") l.typeIs PyProof.Rows.slot_tuple_getitem
  (wpAny_call_entry PyProof.Rows.slot_tuple_getitem l.typeIs PyProof.Rows.entry_tuple_getitem ?_ (PyProof.Rows.args_tuple_getitem _ _)))
 show wpAny _ _ (Builtin.Tuple.tupleItemsOf (.ref t) >>= _) _ _ s;refine cf (PyProof.Rows.tupleItemsOf_ l ?_);refine cf (wpAny_typeOf e ?_);rw[ai (by decide)]
 have p:∀{Q':Int×Int×Nat->Shared->Prop},Q' ((items.size:Int)-1,-1,items.size) s->wpAny (model prog w) A.in1 (Builtin.Slice.sliceApplied (.ref S) (pure (items.size:Int))) Q' E s:=λ {Q'} q=>by
  unfold Builtin.Slice.sliceApplied Builtin.Slice.sliceFields;refine cf (cf (wpAny_field a b (x:=.none) rfl (cf (wpAny_field a b (x:=.none) rfl (cf (wpAny_field a b (x:=.int (-1) T) rfl (cg ?_)))))));refine cf (HT.KQ (.int (-1) T) ?_);show wpAny _ _ (if (((-1:Int))==0)=true then _ else _) _ _ s;rw[aj (by decide)]
  refine cf (HT.KQ .none (cf (HT.KQ .none (cf (cg ?_)))));have j:Builtin.Slice.sliceAdjust none none (-1) (items.size:Int)=((items.size:Int)-1,-1):=rfl;show wpAny _ _ (match Builtin.Slice.sliceAdjust none none (-1) (items.size:Int) with|(lo,hi)=>pure (lo,(-1:Int),Builtin.Slice.slicePlaces lo hi (-1))) _ _ s
  rw[j];have i:Builtin.Slice.slicePlaces ((items.size:Int)-1) (-1) (-1)=items.size:=by
   unfold Builtin.Slice.slicePlaces;rw[aj (by decide)]
   by_cases f:items.size=0
   ·rw[f,aj (by decide)];rfl
   ·rw[ai (by lia)]
    simp
  show wpAny _ _ (pure ((items.size:Int)-1,(-1:Int),Builtin.Slice.slicePlaces ((items.size:Int)-1) (-1) (-1))) _ _ s;rw[i];exact cg q
 refine cf (p ?_);show wpAny _ _ (if (((items.size:Int)-1==0&&(-1:Int)==1&&items.size==items.size))=true then _ else _) _ _ s;rw[aj (by simp),O6]
 first
  |exact cf (m:=Builtin.Tuple.tupleExact _) (wpAny_newObj_type (cg ⟨_,rfl,cg h⟩) H)
  |exact cf (m:=Builtin.Tuple.tupleExact _) (wpAny_newObj_type (cf (cg (cg ⟨_,rfl,cg h⟩))) H)
  |exact cf (cf (m:=Builtin.Tuple.tupleExact _) (wpAny_newObj_type (cg (cg ⟨_,rfl,cg h⟩)) H))
  |exact cf (cf (m:=Builtin.Tuple.tupleExact _) (wpAny_newObj_type (cg ⟨_,rfl,cg h⟩) H))
end
section
variable {st:Expr}{m ms:Ev}{te:TE}{ts:TO}{p2:Pos}{K:Frag}
def iP (K:Frag):V->Hp->VK->Prop:=λx H Q=>∃a X,x=.ref a/\qz K H a X/\∀p,H p=none->Q (.ref p) (upd H p (.tup X.reverse))
def AU (U:PE X e te)(p:PO X (some st) ts):PE X (.Subscript e (.Slice none none (some st) p2) o6) (λσ H Q=>te σ H λx J=>ts σ J λo D=>o=some (-1)/\iP X.K x D Q):=by
 intro P s σ H Q I h;refine Subscript_ (zR (U P s σ H _ I h) λv N ⟨x,J,B,g,l⟩=>?_);refine wpAny_Slice ?_;rw[evalPart_none];refine cg (cg ?_);refine zR (p P N σ J _ B l) λY S ⟨o,C,y,T,j⟩=>?_;obtain⟨rfl,a,L,rfl,n,q⟩:=j;cases g;cases T with
 |int i t=>
  have d:Inv X P σ C { S with heap:=S.heap.push { cls:=.type "slice",data:=.fields #[.none,.none,.int (-1) t] } }:=y.kept (t':=S.toks) λb ob q=>af _ q
  obtain⟨c,r,M,f⟩:=d.tuple n;have E:c.toArray.size=L.length:=by rw[aB];exact r.length.symm
  have u:wpAny (model X.prog X.w) X.A (getItem (.ref a) (.ref S.heap.objs.size)) (EP X P σ Q) X.xe { S with heap:=S.heap.push { cls:=.type "slice",data:=.fields #[.none,.none,.int (-1) t] } }:=by
   refine IQ M (Heap.IsSliceOf.new ..) ?_ (by rw[E];exact f)
   refine⟨.ref _,_,d.laid (t':=S.toks) (o:=.tup L.reverse) (λb ob q=>af _ q) (aq _) ?_,rfl,q _ (d.hok.fresh (aq _))⟩;exact⟨by rw[bA];exact f,c.reverse,Pz r,Z6.new _ _⟩
  show wpAny (model X.prog X.w) X.A (subscriptTail e (.Slice none none (some st) p2) (.ref a) (.ref S.heap.objs.size)) (EP X P σ Q) X.xe _;exact tail_any (ops:=[.ref a,.ref S.heap.objs.size]) M.typeIs PyProof.Rows.slot_tuple_getitem.lookup u (by with_unfolding_all rfl)
def Ll (m M:Ev):Ev:=λa A=>(m a A).bind λw d=>(ku M a d).bind λo c=>match w with|.tup b=>if o=some (-1) then .ok (.tup b.reverse) c else .bad|_=>.bad
end
open PySem.W (KasT kas_rev kas_asc kas_desc kas_tail3 kas_descPart kas_count kas_place kas_bin kas_sort)
def TW (n:Nat)(c:Nat->Nat->Bool):KasT α->(α->Prop)->Prop
 |.ret a,Q=>Q a|.ask i j k,Q=>i<n/\j<n/\TW n c (k (c i j)) Q
theorem TW.bind {b:Type}{c:Nat->Nat->Bool}{f:α->KasT b}{Q:b->Prop}:∀(t:KasT α),TW n c t (λa=>TW n c (f a) Q)->TW n c (t.bind f) Q
 |.ret _,h=>h|.ask i j k,h=>⟨h.1,h.2.1,TW.bind (k (c i j)) h.2.2⟩
theorem TW.wp {c:Nat->Nat->Bool}{cmp:Nat->Nat->(Bool->Shared->Prop)->Shared->Prop}{G:α->Shared->Prop}{s:Shared}(H:∀i j C,i<n->j<n->C (c i j) s->cmp i j C s):
  ∀(t:KasT α),TW n c t (λa=>G a s)->t.kasWp cmp G s
 |.ret _,h=>h|.ask i j k,h=>H i j _ h.1 h.2.1 (TW.wp H (k (c i j)) h.2.2)
open PySem.W (KasT kas_sort kas_ask kat_run kat_snds kat_kind kat_lt kat_cons kat_nil kat_yes kat_no kat_one KatLex KatGo KatTups)
noncomputable def JW  [DecidableEq α] (lt:α->α->Bool):List α->List α->Bool
 |[],[]=>false|[],_::_=>true|_::_,[]=>false|a::x,b::y=>if a=b then JW lt x y else lt a b
section
variable (O:KeyOrd)[DecidableEq O.α]
theorem Nc:∀x:List O.α,JW O.blt x x=false
 |[]=>rfl|a::x=>by unfold JW;rw[ai rfl];exact Nc x
end
noncomputable abbrev IO:KeyOrd:=⟨Int,λa b=>decide (a<b),λa=>by simp,λa b c d H=>by simp only[ao]at*;lia,λa b c h=>by simp only[ao]at*;lia,λa b d H=>by simp only[decide_eq_false_iff_not]at*;lia⟩
abbrev yj:List Int->List Int->Bool:=JW IO.blt
def BU (x:bP):yj x x=false:=Nc IO x
def iQ {d:α}(l:List α):((List.range l.length).map λi=>l.getD i d)=l:=by
 refine a8 (by simp) λi a b=>?_
 simp at a;simp[a]
def iR (v:bQ):(v.toArray.zip v.toArray).map (·.2)=v.toArray:=by
 apply Array.toList_inj.mp
 rw[Array.toList_map];simp only[Array.toList_zip,List.toList_toArray];exact List.map_snd_zip (aq _)
section
variable {prog:Program}{w:World}{A:Around}{s:Shared}
def iS {b:Bool}{x y:Int}{t u:Tok}{Q:Bool->Shared->Prop}(h:Q (decide (x<y)) s):wpAny (model prog w) A (oneLt' b (.int x t) (.int y u)) Q E s:=by
 cases b with|true=>exact oneLt_int h|false=>exact kat_one _ _ (wpAny_lt_int h)
theorem Mw {Q:Bool->Shared->Prop}{b:Bool}:∀{x y:bQ}{f bs:bP}{i:Nat},IntsAre x f->IntsAre y bs->Q (yj f bs) s->KatLex prog w A b (decide (x.length<y.length)) Q (x.zip y) i s
 |_,_,_,_,_,.nil,.nil,h=>h|_,_,_,_,_,.nil,.cons _ _ _,h=>by refine kat_nil (s:=s) ?_;simpa[JW] using h
 |_,_,_,_,_,.cons _ _ _,.nil,h=>by refine kat_nil (s:=s) ?_;simpa[JW] using h
 |_,_,_,_,i,.cons (vs:=x) a t d,.cons (vs:=y) c u r,h=>by
  refine kat_cons (wpAny_eqBool_int ?_);unfold yj JW at h
  by_cases e:a=c
  ·subst e
   rw[ai rfl]at h;rw[bM];refine kat_yes ?_;show KatLex prog w A b (decide (x.length+1<y.length+1)) Q (x.zip y) (i+1) s;rw[show decide (x.length+1<y.length+1)=decide (x.length<y.length) by simp]
   exact Mw d r h
  ·rw[aj e]at h
   rw[show(a==c)=false by simp[e]]
   exact kat_no (iS h)
def J7 (h:Heap)(v:Value)(k:bP):Prop:=∃(a:Addr) (o:Obj) (o9:bQ) (n:Nat),v=.ref a/\h.get? a=some o/\o.cls=.type "tuple" /\ o.data=.seq o9.toArray n/\IntsAre o9 k
def J7.keep {v:Value}{k:bP}(t:J7 h v k)(kp:∀b o,h.get? b=some o->h'.get? b=some o):J7 h' v k:=by obtain⟨a,o,i,n,e,f,d,c,H⟩:=t;exact⟨a,o,i,n,e,kp _ _ f,d,c,H⟩
def iT {x y:Value}{k l:bP}{b:Bool}{Q:Bool->Shared->Prop}(f:J7 s.heap x k)(e:J7 s.heap y l)(h:Q (yj k l) s):wpAny (model prog w) A (keyLt' (tuples' b) x y) Q E s:=by
 obtain⟨a,o,I,n,rfl,r,_,j,g⟩:=f;obtain⟨p,t,q,N,rfl,d,_,c,H⟩:=e;refine kat_lt r j d c ?_
 have:=Mw (prog:=prog) (w:=w) (A:=A) (b:=b) (i:=0) g H h
 simpa using this
inductive gf (h:Heap):List Value->List (bP)->Prop
 |nil:gf h [] []
 |cons {v:Value} {k:bP} {vs:bQ} {ks:bN} (t:J7 h v k) (ne:k≠[]) (r:gf h vs ks):gf h (v::vs) (k::ks)
theorem gf.length:∀{v:bQ}{K:bN},gf h v K->v.length=K.length
 |_,_,.nil=>rfl|_,_,.cons _ _ r=>by simp[r.length]
theorem gf.keep (kp:∀b o,h.get? b=some o->h'.get? b=some o):∀{v:bQ}{K:bN},gf h v K->gf h' v K
 |_,_,.nil=>.nil|_,_,.cons t ne r=>.cons (t.keep kp) ne (r.keep kp)
theorem gf.at:∀{v:bQ}{K:bN}(i:Nat),gf h v K->i<K.length->J7 h (v.getD i Value.none) (K.getD i [])
 |_,_,_,.nil,H=>by simp at H|_,_,0,.cons t _ _,_=>t|_,_,i+1,.cons _ _ r,H=>r.at i (by simpa using H)
theorem gf.firsts:∀{d:bQ}{K:bN},gf h d K->∃fs:bQ,KatTups h d fs/\fs.length=d.length/\∀v∈fs,∃i t,v=Value.int i t
 |_,_,.nil=>⟨[],trivial,rfl,λv H=>by cases H⟩|_,_,.cons (k:=k) ⟨a,o,o9,n,e,h1,h2,c,b⟩ ne r=>by
  obtain⟨fs,t,l,f⟩:=r.firsts;cases b with
  |nil=>exact absurd rfl ne|cons i T q=>
   refine⟨Value.int i T::fs,⟨⟨a,o,_,n,e,h1,h2,c,rfl⟩,t⟩,by simp[l],λv H=>?_⟩
   rcases cn.mp H with rfl|H
   ·exact⟨i,T,rfl⟩
   ·exact f v H
end
noncomputable def RJ (k:bP):W:=.tup (k.map W.int)
def QB:List W->Option (bN)
 |[]=>some []|.tup x::ws=>match intsOf x with|some k=>if k=[] then none else(QB ws).map (k::·)|none=>none
 |_::_=>none
theorem O9:∀{b:List W}{K:bN},QB b=some K->b=K.map RJ/\∀k∈K,k≠[]
 |[],_,h=>by cases h;exact⟨rfl,λk a=>by cases a⟩|w::b,K,h=>by
  cases w with
  |tup X=>
   unfold QB at h;cases e1:intsOf X with
   |none=>rw[e1]at h;cases h|some k=>
    rw[e1]at h;dsimp only at h
    by_cases c:k=[]
    ·rw[ai c]at h;cases h
    ·rw[aj c]at h
     cases e2:QB b with
     |none=>rw[e2]at h;cases h|some l=>
      rw[e2]at h;cases h;obtain⟨A,a2⟩:=O9 e2;refine⟨by rw[aR,<- A,GQ e1];rfl,λx H=>?_⟩
      rcases cn.mp H with rfl|H
      ·exact c
      ·exact a2 x H
  |_=>cases h
section
theorem NB {l:List (Option V)}{s:Shared}(I:Inv X o5 l H s):∀{j:bN}{y:List V}{i:bQ},zC X.K φ H (j.map RJ) y->(∀k∈j,k≠[])->Vals y i->gf s.heap i j
 |[],_,_,e,_,b=>by have E:_=([]:List V):=e;subst E;rw[Vals.zero b];exact .nil
 |k::j,_,_,⟨v,r,e,h,t⟩,ne,b=>by
  subst e;cases b with
  |cons c b=>
   obtain⟨a,A,e,hT,d⟩:=h;subst e;have x:=zC.ints.mp d;subst x;obtain⟨i,g,⟨o,u,q,n,p⟩,_⟩:=I.tuple hT;cases c;exact .cons ⟨a,o,i,n,rfl,u,q,p,intsAre_of g⟩ (ne k (aF ..)) (NB I t (λk f=>ne k (az _ f)) b)
variable {K:Frag}{a:Expr}
def Ac (K:Frag):V->List V->Hp->VK->Prop:=λx v H Q=>∃a X y,x=.ref a/\v=[y]/\qX K H a X/\wq y=true/\X.all wq=true/\Q (.int (X.countP λz=>g9 z y)) H
def D1:Kr X "list.count" (Ac X.K):=by
 intro p s B H x J v U Q I b d h;obtain⟨a,E,y,rfl,rfl,A,l,f,q⟩:=h;cases b;obtain⟨u,rfl,e⟩:=d.one;obtain⟨i,r,⟨⟨C,D,data,S⟩,n,o,c,j,t⟩,_⟩:=I.list A;simp only at c t;subst c t;refine call_meets F.slot_list_count ⟨_,o,rfl⟩ F.entry_list_count (F.args_list_count_2 _ _) (SeqAt.list_countAt a i.toArray n D S u (Zp y)) ⟨o,λz g=>K0 e l r f z (by simpa using g),?_⟩
 refine⟨.int _,H,I.tok _,⟨_,rfl⟩,?_⟩;rw[<- UE r f]at q;simpa using q
def YW:W->W->Hx->R W:=λx y A=>match x with
 |.ref n=>match A[n]? with|some (.lst ws)=>if yx y&&ws.all yx then .ok (.int (Jh y ws 0)) A else .bad|_=>.bad
 |_=>.bad
def Cc:∀x y A,qW (YW x y A):=λx y A=>by
 unfold YW
 split
 ·split
  ·exact Z5 j5 jc
  ·exact jc
 ·exact jc
end
open PySem.W (kas_kind)
section
open PySem.SeqAt
open PySem.AutoSeq1 (wpAny_loadPart')
open PySem.MeetsSeq PySem.MeetsSeq2 PySem.MeetsSeq3
end
open AutoSeq1 (wpAny_loadPart')
section
variable {m:Ev}{lo hi:Option Expr}{K:Frag}
def iU:W5 X (λx L i H Q=>LG X.K x L i H Q∨LK X.K x L i H Q):=by
 intro P s b H x v l u L i S Q I r a p c h;rcases h with h|h
 ·exact AN P s b H x v l u L i S Q I r a p c h
 ·exact Af P s b H x v l u L i S Q I r a p c h
def Zh (m:Ev)(p P:Po):Ev:=λb A=>(m b A).bind λw e=>(p b e).bind λl d=>(P b d).bind λu a=>match w with
 |.tup c=>.ok (.tup (yG c l u)) a|.ref n=>match a[n]? with|some (.lst c)=>.ok (.ref a.length) (a++[.lst (yG c l u)])|_=>.bad
 |_=>.bad
end
section
def iW:=ZA λi j=>.int (Builtin.bitAnd i j)
def iX:=ZO (λ_ j=>decide (0<=j)) λi j=>.int (i/2 ^ j.toNat)
end
def Qw (X:Cx):Prop:=∀p a H s,Inv X p a H s->∀(x:Str)(c:Addr),X.env.cells.lookup x=some c->c∉qL X.stack
def Y2 (h:∀x,X.fn x=true):Qw X:=λp a H s I x c e=>Ag I h e
def DS {H:Hp}{d:Shared}(S:gE X sc)(C:Qw X)(I:Inv X o5 σ H d):Qw (jA X N sc d H fp j7):=λp a b g i x c e f=>by
 rcases YJ I S (PySem.mem_of_lookup e) with ⟨_,z,_⟩|⟨_,z,_⟩
 ·exact C o5 σ H d I x c z f
 ·rcases cn.mp (I.stkSub c f) with q|q
  ·exact absurd (I.lt) (Nat.not_lt.mpr (by rw[<- q];exact bI z))
  ·obtain⟨_,o,h,_⟩:=I.ok.funs.mem q
   exact absurd (aM h) (Nat.not_lt.mpr (aZ I.sz (bI z)))
def kL (n:Nat)(q:Str)(P:Addr)(i:bT)(g:Fn):Ev:=λa A=>match A[n]? with
 |some (.tab Q P')=>if Q=q/\P'=P then(match gR i a with|some b=>g b A|none=>.bad) else .bad
 |_=>.bad
def LZ (e:Expr):Expr:=match e with|.ListComp b _ _ _=>b|_=>QD
section
variable {w:World}{K:Frag}{st:Stmt}{ps:bU}{k:Nat}{m:Ex}
def L4 (F:kS K x x st f fd)(n:nsIn K mainGlobals x=some (some (.ref f)))(t:tabIn K x=some (c,Pt))(S:k9 N ps (qc st))
  (h:∀(A:Around)(o:bZ)(s:Shared)(H:Hp)(E:XK),jb k (A.deeper (envOfC x (qc st) s.heap.objs.size f (.ref c)))->QN (yU kE P w K mg base N x (qc st) f (.ref c) A o s H E).nox jR (jO st) m):
  yi P w K mg base kE (k+1) f fd ps (Zw K ps.length (qo N.length m)):=
 (iy (q := "") (ls:=[]) (m:=λ_=>m) F n t S h).imp λv H Q E ⟨l,a,A,b,S,r,q⟩=>⟨l,a,A,b,S,r,λ_=>q⟩
end
def Cn {w:World}{K:Frag}{mb:bY}{k:Nat}{fa p:Addr}{sp:Sp}{S:Shared}{vs:bQ}
  (KX:K.In S.heap)(A:S.heap.Ns mainGlobals mg)(c:S.heap.Ns builtinsNs mb)(hbb:∀x:Str,x ≠ "__name__" -> mb x=bootBuiltins x)(C:S.heap.NoLimit)(hg:S.gens=#[])
  (l:S.heap.get? a=some { cls:=.type "list",data:=.seq vs.toArray })(hi:IntsAre vs ns)(hl:ns.length<=sizeLine)(hr:jb k callerA)
  (t:S.heap.get? Pt=some (tabObj #[]))(hKP:K.lookup Pt=none)(hct:isCodeTable S.heap Pt)(i:S.heap.get? p=some (tabObj #[]))(hKU:K.lookup p=none)(Y:isCodeTable S.heap p)(hbm:BMain mg S.heap)
  (F:∀base:Heap,K.In base->base.Ns mainGlobals mg->BMain mg base->yi P w K mg base kE k fa fd [x] sp)(y:∀(s:Shared)(u:Value),BindsTo s fd ⟨[u],[]⟩ [(x,u)])
  (T:∀H:Hp,H Pt=some (.tbl #[])->H p=some (.tbl #[])->Kx K H a (ns.map V.int)->sp [.ref a] H (λv _=>v=.bl true) λ_ _ _=>False):
  codeAny (model P w) callerA (.call (.ref fa) ⟨[.ref a],[]⟩) (λr s'=>r=.ok (.ret (.bool true))/\OldK S.heap s'.heap/\s'.os=S.os/\AllBare s'.gens) S:=by
 have rv:=Om hi;have L:=hi.length;have Q:a≠Pt:=λz=>by rw[z,t]at l;cases l
 have U:a≠p:=λz=>by rw[z,i]at l;cases l
 have core:∀H:Hp,H Pt=some (.tbl #[])->H p=some (.tbl #[])->Kx K H a (ns.map V.int)->jd P w H S.heap->(∀b,H b≠none->b=a∨b=Pt∨b=p)->(∀u,H a=some u->K.lookup a=none/\∃o xs,u=.frz o (.lst xs))->
   codeAny (model P w) callerA (.call (.ref fa) ⟨[.ref a],[]⟩) (λr s'=>r=.ok (.ret (.bool true))/\OldK S.heap s'.heap/\s'.os=S.os/\AllBare s'.gens) S:=by
  intro H hO hU hS hok I hK;have base_of:∀{b:Addr}{o:Obj},S.heap.get? b=some o->H b=none->(Qf S.heap H).get? b=some o:=λe n=>CC e n;have M:∀{b:Addr}{o:Obj}{es:Array DictEntry}{E:Nat},S.heap.get? b=some o->o.data=.dict es E->H b=none:=λ {b o es E} e d=>by
   cases q:H b with
   |none=>rfl|some u=>
    rcases I b (by rw[q];simp) with z|z|z
    ·subst z
     rw[l]at e;cases e;have d':Data.seq vs.toArray _=Data.dict es E:=d;cases d'
    ·subst z
     rw[t]at e;cases e;cases d
    ·subst z
     rw[i]at e;cases e;cases d
  have N:∀{b:Addr}{m:bY},S.heap.Ns b m->(Qf S.heap H).Ns b m:=λ {b m} ⟨o,es,E,e,d,r⟩=>⟨o,es,E,base_of e (M e d),d,r⟩;have D:K.In (Qf S.heap H):=λb o e=>base_of (KX b o e) (by
   cases q:H b with
   |none=>rfl|some u=>
    rcases I b (by rw[q];simp) with z|z|z
    ·subst z
     rw[(hK u q).1]at e;cases e
    ·subst z
     rw[hKP]at e;cases e
    ·subst z
     rw[hKU]at e;cases e)
  have hBb:BMain mg (Qf S.heap H):=by
   obtain⟨bm,o,b1,b2,b3,B,J,b6,b7⟩:=hbm;refine⟨bm,o,b1,b2,b3,base_of B ?_,J,b6,b7⟩;cases q:H bm with
   |none=>rfl|some u=>
    rcases I bm (by rw[q];simp) with z|z|z
    ·subst z
     rw[l]at B;cases B;exact absurd J (by intro q;injection q with q;exact absurd q (by decide))
    ·subst z
     rw[t]at B;cases B;cases J
    ·subst z
     rw[i]at B;cases B;cases J
  have hM:Mod K mg (Qf S.heap H):=⟨D,N A,⟨mb,N c,hbb⟩,let ⟨mc,h1,h2⟩:=C;⟨mc,N h1,h2⟩⟩
  have e0:J3 P w K mg (Qf S.heap H) callerA [] S H:=⟨rfl,hM,λb o e=>cF e,Nat.le_of_eq (Cj _ _),trivial,λb c=>absurd (show b∈([]:bR) from c) (by simp),hok,.of_eq hg⟩
  refine codeAny_mono ((F _ D (N A) hBb).run callerA [] S H ⟨[.ref a],[]⟩ [.ref a] [.ref a] _ _ hr e0 (y S (.ref a)) (.cons rfl .nil) (T H hO hU hS)) λr s' h=>?_;cases r with
  |error e=>exact False.elim h|ok fl=>
   cases fl with
   |next=>exact False.elim h|brk=>exact False.elim h|cont=>exact False.elim h|ret u=>
    obtain⟨v,H',os,bare,un,g,r',q⟩:=h;have q':v=.bl true:=q;subst q';obtain rfl:u=Value.bool true:=r';refine⟨rfl,⟨λb o e=>?_,λb o e=>un.there b o e (by simp)⟩,os,bare⟩
    cases q:H b with
    |none=>exact .inl (un.keep b o e q (by intro z;exact absurd (show b∈([]:bR) from z) (by simp)) (by simp))|some u=>
     rcases I b (by rw[q];simp) with z|z|z
     ·subst z
      obtain⟨ob,xs,rfl⟩:=(hK u q).2;have j:=un.frzs _ ob _ q;obtain⟨e1,_⟩:=hok _ _ q;obtain⟨e2,_⟩:=g _ _ j;rw[e]at e1;cases e1;exact .inl e2
     ·subst z
      rw[t]at e;cases e;obtain⟨more,j⟩:=un.tbls _ _ hO;exact .inr (.inl ⟨hct,rfl,#[],more,rfl,g _ _ j⟩)
     ·subst z
      rw[i]at e;cases e;obtain⟨more,j⟩:=un.tbls _ _ hU;exact .inr (.inl ⟨Y,rfl,#[],more,rfl,g _ _ j⟩)
 have two:∀b,(b=Pt∨b=p)->S.heap.get? b=some (tabObj #[]):=λb h=>by
  rcases h with h|h<;>rw[h]
  ·exact t
  ·exact i
 have na:¬(a=Pt∨a=p):=λh=>h.elim Q U;cases X:K.lookup a with
 |some o=>
  have e:=KX a o X;rw[l]at e;cases e;refine core (λb=>if b=Pt∨b=p then some (.tbl #[]) else none) (ai (.inl rfl)) (ai (.inr rfl)) (.inr ⟨_,vs.toArray,_,X,rfl,rfl,rfl,by rw[aB,L];exact hl,by simpa using rv⟩) (λb u z=>?_) (λb z=>?_) λu z=>?_
  ·by_cases c:b=Pt∨b=p
   ·have Z:=(ai c).symm.trans z
    cases Z;exact two b c
   ·have Z:=(aj c).symm.trans z
    cases Z
  ·by_cases c:b=Pt∨b=p
   ·exact .inr c
   ·exact absurd (aj c) z
  ·have Z:=(aj na).symm.trans z
   cases Z
 |none=>
  refine core (λb=>if b=Pt∨b=p then some (.tbl #[]) else if b=a then some (.frz { cls:=.type "list",data:=.seq vs.toArray } (.lst (ns.map V.int))) else none) (ai (.inl rfl)) (ai (.inr rfl))
   (.inl ⟨{ cls:=.type "list",data:=.seq vs.toArray },(aj na).trans (ai rfl)⟩) (λb u z=>?_) (λb z=>?_) λu z=>?_
  ·by_cases c:b=Pt∨b=p
   ·have Z:=(ai c).symm.trans z
    cases Z;exact two b c
   ·have Z:=(aj c).symm.trans z
    by_cases f:b=a
    ·have j:=(ai f).symm.trans Z
     cases j;subst f;exact⟨l,by rw[ag];exact hl,vs,_,rv,l⟩
    ·have j:=(aj f).symm.trans Z
     cases j
  ·by_cases c:b=Pt∨b=p
   ·exact .inr c
   ·by_cases f:b=a
    ·exact .inl f
    ·exact absurd ((aj c).trans (aj f)) z
  ·have Z:=((aj na).trans (ai rfl)).symm.trans z
   cases Z;exact⟨X,_,_,rfl⟩
def Mm (q r:Str)(fs:Addr->Addr->Fn):Prop:=∀n:bP,n.length<=63->∀p P,∃A,fs p P [.ref 0] [.ro (n.map W.int),.tab q p,.tab r P]=.ok (.bl true) A
def EY {K:Frag}{P:Addr}{q r:Str}(N:Pt≠P)(f:H Pt=some (.tbl #[]))(U:H P=some (.tbl #[]))(S:Kx K H a (ns.map V.int)):zL K [a,Pt,P] [.ro (ns.map W.int),.tab q Pt,.tab r P] H:=by
 refine⟨rfl,λi j b o u l g d c t M=>?_,λn o h=>?_⟩
 ·match i,j,l,g,d,c with|0,_,_,_,d,_=>simp at d;subst d;cases t|_,0,_,_,_,c=>simp at c;subst c;cases M|1,1,_,_,_,_=>rfl|2,2,_,_,_,_=>rfl|1,2,l,g,_,_=>simp at l g;exact absurd (l.trans g.symm) N|2,1,l,g,_,_=>simp at l g;exact absurd (g.trans l.symm) N|i+3,_,_,_,d,_=>simp at d|_,j+3,_,_,_,c=>simp at c
 ·match n,h with
  |0,h=>simp at h;subst h;exact⟨a,rfl,ns.map V.int,S,zC.ints.mpr rfl⟩|1,h=>simp at h;subst h;exact⟨Pt,rfl,rfl,#[],f,trivial,λp C e=>nomatch e⟩
  |2,h=>simp at h;subst h;exact⟨P,rfl,rfl,#[],U,trivial,λp C e=>nomatch e⟩
  |n+3,h=>simp at h
def zd6 {y:Str}{l:PySem.W.OpenLaw}{k:Nat}{q:Program}{loose:bU}{M:World->Heap->Prop}{d:DefRec}{Kp:Params->Frag}{X Q:Str}{fs:Addr->Addr->Fn}{P:Addr}(ok:Mm X Q fs)
  (hn:l.most=some 63)(B:d.params.defaults=[])(hr:jb k callerA)(ne:Pt≠P)(hY:∀(w:World)(h:Heap),M w h->(Kp w.params).In h)(hT:∀(w:World)(h:Heap),M w h->h.get? Pt=some (tabObj #[])/\h.get? P=some (tabObj #[]))
  (ht:∀p,XQ (Kp p) d.name Pt=true)(I:∀p,(Kp p).lookup Pt=none)(Z:∀p,XQ (Kp p) y P=true)(U:∀p,(Kp p).lookup P=none)
  (F:∀(w:World)(mg:bY)(fa:Addr)(h:Heap),(Kp w.params).In h->h.Ns mainGlobals mg->mg d.name=some (.ref fa)->(∃c,tabIn (Kp w.params) d.name=some (c,Pt)/\codeHdIn (Kp w.params) c Pt=true)->(∃c,tabIn (Kp w.params) y=some (c,P)/\codeHdIn (Kp w.params) c P=true)->
   ∃fd:FuncData,(∀(s:Shared)(u:Value),BindsTo s fd ⟨[u],[]⟩ [(x,u)])/\∀base:Heap,(Kp w.params).In base->base.Ns mainGlobals mg->BMain mg base->yi l.prog w (Kp w.params) mg base kE k fa fd [x] (Zw (Kp w.params) 1 (fs Pt P))):
  PySem.W.WalkO q loose XP M l.row.toRowW d [] (λf vs=>PySem.call f vs):=by
 refine Att.Ej (n:=63) hn B λw N S mg mb fa o pm cd doc a vs ns G Y ho hd hcd' t j hints hlen hg=>?_;have K:=hY w _ Y;obtain⟨fd,hb,hF⟩:=F w mg fa _ K G.T.g t (GR (ht w.params)) (GR (Z w.params));obtain⟨c,_,C⟩:=GR (ht w.params);obtain⟨c2,_,i⟩:=GR (Z w.params);obtain⟨hP,hU⟩:=hT w _ Y;have hc:isCodeTable S.heap Pt:=((codeHd_of_K K C).tab hP).isCodeTable;have D:isCodeTable S.heap P:=((codeHd_of_K K i).tab hU).isCodeTable;have E:BMain mg S.heap:=by obtain⟨bm,ob,b1,b2,L,b4,b5,J⟩:=G.T.bmain;refine⟨bm,ob,b1,b2,λz=>?_,L,b4,b5,J⟩;obtain⟨o,es,ep,e,hd,_⟩:=G.T.g;rw[z,e]at L;cases L;rw[hd]at J;cases J
 refine Cn K G.T.g G.T.b G.T.builtins G.T.nolimit hg j hints (aZ hlen (by decide)) hr hP (I w.params) hc hU (U w.params) D E hF hb λH h1 h2 h3=>?_
 refine⟨rfl,[a,Pt,P],[.ro (ns.map W.int),.tab X Pt,.tab Q P],[.ref 0],EY ne h1 h2 h3,.one ⟨a,rfl,rfl⟩,?_⟩;obtain⟨A,e⟩:=ok ns hlen Pt P;rw[e];exactλoP H' v _ _ r=>r
def BJ (x:Array Value):slicePick x none none (some (-1))=x.toList.reverse.toArray:=by
 unfold slicePick;have E:sliceBounds none none (some (-1)) x.size=((x.size:Int)-1,-1,-1):=rfl;rw[E];have e:sliceRange ((x.size:Int)-1) (-1) (-1)=(List.range x.size).map λ(k:Nat)=>(((x.size:Int)-1)+(k:Int) * (-1)).toNat:=by
  unfold sliceRange;dsimp only;rw[aj (by decide)]
  by_cases h:x.size=0
  ·rw[h,aj (by decide)];rfl
  ·rw[ai (by lia)]
   have:(((x.size:Int)-1 - -1 - -1-1)/(- -1)).toNat=x.size:=by rw[Int.neg_neg,Int.ediv_one];lia
   rw[this];refine bh λk _=>?_;rw[Int.mul_comm]
 rw[e,List.filterMap_map];exact O6 x
section
variable {st:Expr}{m ms:Ev}{te:TE}{ts:TO}{p2:Pos}{K:Frag}
def iY (K:Frag):V->Hp->VK->Prop:=λx H Q=>∃a X,x=.ref a/\qX K H a X/\∀p,H p=none->Q (.ref p) (upd H p (.lst X.reverse))
def Av (U:PE X e te)(p:PO X (some st) ts):PE X (.Subscript e (.Slice none none (some st) p2) o6) (λσ H Q=>te σ H λx E=>ts σ E λo D=>o=some (-1)/\iY X.K x D Q):=by
 intro P s σ H Q I h;refine Subscript_ (zR (U P s σ H _ I h) λv N ⟨x,E,B,f,j⟩=>?_);refine wpAny_Slice ?_;rw[evalPart_none];refine cg (cg ?_);refine zR (p P N σ E _ B j) λY S ⟨o,C,y,T,g⟩=>?_;obtain⟨rfl,a,M,rfl,n,q⟩:=g;cases f;cases T with
 |int i t=>
  have d:Inv X P σ C { S with heap:=S.heap.push { cls:=.type "slice",data:=.fields #[.none,.none,.int (-1) t] } }:=y.kept (t':=S.toks) λb ob q=>af _ q
  obtain⟨c,r,J,l⟩:=d.list n;have L:=r.length;have u:wpAny (model X.prog X.w) X.A (getItem (.ref a) (.ref S.heap.objs.size)) (EP X P σ Q) X.xe { S with heap:=S.heap.push { cls:=.type "slice",data:=.fields #[.none,.none,.int (-1) t] } }:=by
   refine wpAny_getItem_list_slice J.isList (Heap.IsSliceOf.new ..) .none .none (.int (-1) t) (by simp) ?_ (by rw[aB]<;>lia)
   rw[BJ];refine⟨.ref _,_,d.laid (t':=S.toks) (o:=.lst M.reverse) (λb ob q=>af _ q) (aq _) ?_,rfl,q _ (d.hok.fresh (aq _))⟩;exact⟨by rw[bA];exact l,c.reverse,0,Pz r,aC _ rfl⟩
  show wpAny (model X.prog X.w) X.A (subscriptTail e (.Slice none none (some st) p2) (.ref a) (.ref S.heap.objs.size)) (EP X P σ Q) X.xe _;exact tail_any (ops:=[.ref a,.ref S.heap.objs.size]) J.isList.typeIs slot_list_getitem.lookup u (by with_unfolding_all rfl)
def Ss (m M:Ev):Ev:=λb A=>(m b A).bind λw c=>(ku M b c).bind λo a=>match w with
 |.ref n=>match a[n]? with|some (.lst ws)=>if o=some (-1) then .ok (.ref a.length) (a++[.lst ws.reverse]) else .bad|_=>.bad
 |_=>.bad
end
open PySem.W (KasT kas_asc kas_sort kat_run kat_snds kat_kind)
theorem Mb {c:Nat->Nat->Bool}{p:Array Nat}(H:∀i,i<n->p.getD i 0=i)(b:∀a,1<=a->a<n->c a (a-1)=false):∀(f a:Nat){Q:Nat->Prop},1<=a->a+f=n->Q n->TW n c (kas_asc p f a) Q
 |0,a,Q,_,e,h=>by obtain rfl:a=n:=e;exact h
 |f+1,a,Q,h1,e,h=>by
  have d:=H a (by lia)
  have E:=H (a-1) (by lia)
  refine⟨by lia,by lia,?_⟩
  rw[d,E,b a h1 (by lia)]
  exact Mb H b f (a+1) (by lia) (by lia) h
def iZ {c:Nat->Nat->Bool}{Q:Array Nat->Prop}(d:2<=n)(b:∀a,1<=a->a<n->c a (a-1)=false)(h:Q (List.range n).toArray):TW n c (kas_sort n) Q:=by
 refine TW.bind _ (TW.bind _ (Mb (p:=(List.range n).toArray) (λi H=>by simp[Array.getD,H]) b _ _ (aq _) (by lia) ?_))
 rw[ai (by simp)]
 show TW n c (if n<n then _ else _) Q;rw[aj (aT n)];exact h
section
variable {prog:Program}{w:World}{A:Around}{s:Shared}
structure SH (prog:Program)(w:World)(A:Around)(κ:SortKind)(vs:bQ)(c:Nat->Nat->Bool)(s:Shared):Prop where
 kind:2<=vs.length->∀{Q:SortKind->Shared->Prop}{E:bV},Q κ s->wpAny (model prog w) A (keyKind' vs.toArray) Q E s
 lt:∀i j,i<vs.length->j<vs.length->∀{Q:Bool->Shared->Prop}{E:bV},Q (c i j) s->wpAny (model prog w) A (keyLt' κ (vs.getD i Value.none) (vs.getD j Value.none)) Q E s
def EK {κ:SortKind}{K:bQ}{c:Nat->Nat->Bool}{P:PySem.Fin->Shared->Prop}(g:s.heap.get? a=some (seqObj "list" K.toArray n))(v:∀h':Heap,(∀b o,b≠a->s.heap.get? b=some o->h'.get? b=some o)->SH prog w A κ K c { s with heap:=h' })(q:K.length<64)
  (B:∀a,1<=a->a<K.length->c a (a-1)=false)(h:P (.done (.ret .none)) { s with heap:=sortedHeap s.heap a K K.toArray }):
  wpAny (model prog w) A (Builtin.«list.sort» ⟨[.ref a],[]⟩) P E s:=by
 have J:a<s.heap.objs.size:=aM g;obtain⟨t,f⟩:∃t,(s.heap.update a (Obj.mapSeq λ_=>(#[]:Array Value))).get? a=some (seqObj "list" #[] t):=⟨_,get?_update_seq g λ_=>#[]⟩;have kp:∀b o,b≠a->s.heap.get? b=some o->(((s.heap.update a (Obj.mapSeq λ_=>(#[]:Array Value))).push (seqObj "tuple" K.toArray 0)).push (seqObj "list" #[] 0)).get? b=some o:=λb o N e=>
  af _ (af _ ((bq _ _ (Ne.symm N)).trans e))
 have T:=v _ kp;have H:=af (seqObj "list" #[] 0) (af (seqObj "tuple" K.toArray 0) f);have d:K.toArray.size=K.length:=by simp
 rw[list_sort_plain];refine cf (listItems_at g rfl ?_);refine cf (listUpdate_at g rfl ?_ (by rw[d,sizeLine_eq];lia) (zero_le _))
 refine cf (seqEpoch_at f rfl ?_);refine cf (wpAny_newTuple ?_ (by show K.length<=_;rw[sizeLine_eq];lia))
 refine cf (wpAny_newList ?_ (zero_le _));refine wpAny_holding ?_;show wpAny (model prog w) A _ P E { s with heap:=((s.heap.update a (Obj.mapSeq λ_=>(#[]:Array Value))).push (seqObj "tuple" K.toArray 0)).push (seqObj "list" #[] 0) }
 dsimp only
 by_cases z:K.toArray.size<2
 ·rw[ai z,ai z]
  refine cf (cg ?_);rw[StateT.run_pure];refine cf (cg ?_);dsimp only;refine cf (seqEpoch_at H rfl ?_);show wpAny _ _ (Builtin.List.listUpdate (.ref a) (λ_=>(K.toArray.zip K.toArray).map (·.2)) >>= _) _ _ _;rw[iR K];refine cf (listUpdate_at H rfl ?_ (zero_le _) (by rw[d,sizeLine_eq];lia))
  simp only[bne_self_eq_false,false_eq_true,if_false];exact cg h
 ·rw[aj z,aj z]
  have M:2<=K.length:=by lia
  refine cf (T.kind M ?_);refine cf (wpAny_mono (kat_run (ks:=K) (G:=λp L=>L={ s with heap:=((s.heap.update a (Obj.mapSeq λ_=>(#[]:Array Value))).push (seqObj "tuple" K.toArray 0)).push (seqObj "list" #[] 0) }/\p=(List.range K.length).toArray)
   (Q:=λS L=>arrOf S=(List.range K.length).toArray.map (PySem.W.kas_item (K.toArray.zip K.toArray))/\failedOf S=none/\L={ s with heap:=((s.heap.update a (Obj.mapSeq λ_=>(#[]:Array Value))).push (seqObj "tuple" K.toArray 0)).push (seqObj "list" #[] 0) })
   rfl M q (λp S L U a2 I u=>⟨by rw[<- u.2];exact a2,I,u.1⟩) ?_) ?_ λ_ _ e=>e)
  ·exact TW.wp (n:=K.length) (c:=c) (λi j C y x D=>T.lt i j y x D) _ (iZ M B ⟨rfl,rfl⟩)
  ·rintro⟨⟨⟩,S⟩ L ⟨r,l,rfl⟩
   dsimp only;rw[kat_snds rfl r,List.toList_toArray,iQ];refine cf (seqEpoch_at H rfl ?_);refine cf (listUpdate_at H rfl ?_ (zero_le _) (by rw[d,sizeLine_eq];lia))
   rw[l];simp only[bne_self_eq_false,false_eq_true,if_false];exact cg h
def CN {u:SortKind}{l:Addr}{v:bQ}{c:Nat->Nat->Bool}(i:s.heap.IsList l v.toArray)(T:∀(x:Around)(r:Heap)(t:Nat),x.units<=A.units+8->(∀b o,s.heap.get? b=some o->r.get? b=some o)->SH prog w x u v c { s with heap:=r,toks:=t })(g:v.length<64)
  (j:∀a,1<=a->a<v.length->c a (a-1)=false)
  (h:∀(r:Heap)(a:Addr)(k:Nat),s.heap.objs.size<=a->r.get? a=some { cls:=.type "list",data:=.seq v.toArray k }->(∀b o,s.heap.get? b=some o->r.get? b=some o)->Q (.ref a) { s with heap:=r }):
  wpAny (model prog w) A (call (.builtin "sorted") [.ref l]) Q E s:=by
 refine Calls.call_function_entry kind_sorted plain_sorted entry_sorted (args_sorted1 _) ?_;unfold Builtin.«sorted»;refine cf (m:=checkCount "sorted" 1 1 _) (cg ?_);refine cf (collect_list i ?_ (by rw[sizeLine_eq];lia))
 refine cf (wpAny_newList ?_ (by rw[sizeLine_eq];lia))
 have f:((s.heap.push (seqObj "list" #[] 0)).update s.heap.objs.size (Obj.mapSeq (·++v.toArray))).objs.size=s.heap.objs.size+1:=by rw[Heap.size_update,size_push']
 show wpAny _ _ _ _ _ { s with heap:=((s.heap.push (seqObj "list" #[] 0)).update s.heap.objs.size (Obj.mapSeq (·++v.toArray))).push (seqObj "list" v.toArray 0) }
 have d:∀b o,s.heap.get? b=some o->((s.heap.push (seqObj "list" #[] 0)).update s.heap.objs.size (Obj.mapSeq (·++v.toArray))).get? b=some o:=λb o e=>
  (bq _ _ (ne_of_gt (aM e))).trans (af _ e)
 generalize (s.heap.push (seqObj "list" #[] 0)).update s.heap.objs.size (Obj.mapSeq (·++v.toArray))=h1 at f d;have H:(h1.push (seqObj "list" v.toArray 0)).get? h1.objs.size=some (seqObj "list" v.toArray 0):=aC _ rfl;have K:∀b o,s.heap.get? b=some o->(h1.push (seqObj "list" v.toArray 0)).get? b=some o:=λb o e=>af _ (d b o e);have nb:∀b o,s.heap.get? b=some o->b≠h1.objs.size:=λb o e z=>by
  subst z
  have:h1.objs.size<s.heap.objs.size:=aM e
  lia
 refine cf (wpAny_holding (wpAny_call_entry slot_list_sort ⟨_,H,rfl⟩ entry_list_sort (EK (κ:=u) (c:=c) H (λr kp=>T _ r _ (by first|(show A.units+1<=A.units+8;lia)|(show A.units+1+1<=A.units+8;lia)) λb o e=>kp b o (nb b o e) (K b o e)) g j ⟨_,rfl,?_⟩) (args_list_sort _)))
 refine cg ⟨_,rfl,?_⟩;have q:=get?_update_seq H (λ_=>(#[]:Array Value));have p:=af (seqObj "list" #[] 0) (af (seqObj "tuple" v.toArray 0) q);obtain⟨k,n⟩:∃k,(sortedHeap (h1.push (seqObj "list" v.toArray 0)) h1.objs.size v v.toArray).get? h1.objs.size=some (seqObj "list" v.toArray k):=⟨_,get?_update_seq p (λ_=>v.toArray)⟩;refine h _ h1.objs.size k (by lia) n λb o e=>?_
 unfold sortedHeap;exact(bq _ _ (Ne.symm (nb b o e))).trans (af _ (af _ ((bq _ _ (Ne.symm (nb b o e))).trans (K b o e))))
def ER {d:bQ}{K:bN}{A:Around}(T:gf s.heap d K):SH prog w A (tuples' (Value.type "int" != Value.type "tuple")) d (λi j=>yj (K.getD i []) (K.getD j [])) s where
 kind:=λg Q E h=>by obtain⟨fs,t,f,e⟩:=T.firsts;exact kat_kind (T:=.type "int") t (by lia) (λv H=>by obtain⟨i,c,rfl⟩:=e v H;exact PySem.W.Looks.of_pure rfl) rfl h
 lt:=λi j b a Q E h=>iT (T.at i (by rw[<- T.length];exact b)) (T.at j (by rw[<- T.length];exact a)) h
end
section
variable {m:Ev}
def WR (K:bN):Bool:=(List.range K.length).all λa=>a==0 || !yj (K.getD a []) (K.getD (a-1) [])
def FY:yw X (.builtin "sorted") (λxs H Q=>∃(p:Addr) (Y:List V) (N:bN) (P:bR),xs=[.ref p]/\qX X.K H p Y/\zC X.K P H (N.map RJ) Y/\(∀k∈N,k≠[])/\(N.length<64/\WR N=true)/\
  ∀l,H l=none->Q (.ref l) (upd H l (.lst Y))):=by
 intro S s σ H xs us Q I r h;obtain⟨p,Y,N,P,rfl,g,d,Z,⟨y,x⟩,q⟩:=h;obtain⟨u,rfl,e⟩:=vals1 r;cases e;obtain⟨f,v,⟨o,k,C,B,M,E⟩,D⟩:=I.list g;have T:=NB I d Z v;have L:=T.length;have J:=v.length;refine CN (c:=λi j=>yj (N.getD i []) (N.getD j [])) ⟨o,C,B,k,E⟩ (λA U t _ kp=>ER (s:={ s with heap:=U,toks:=t }) (T.keep kp)) (by lia) (λa h1 b=>?_) λU a c b n kp=>?_
 ·have:=cw.mp x a (cj.mpr (by lia))
  rw[a3,aL,not_eq_true']at this;exact this.resolve_left (by lia)
 ·refine⟨.ref a,_,I.laid (t':=s.toks) (o:=.lst Y) kp b ⟨?_,_,c,v,n⟩,rfl,q _ (I.hok.fresh b)⟩
  rw[sizeLine_eq];lia
def XY:W->Hx->R W:=λw A=>match w with
 |.ref n=>match A[n]? with
  |some (.lst ws)=>match QB ws with|some K=>if K.length<64/\WR K=true then .ok (.ref A.length) (A++[.lst ws]) else .bad|none=>.bad
  |_=>.bad
 |_=>.bad
def Sj (m:Ev):Ev:=λa A=>(m a A).bind λw b=>XY w b
end
structure GO (x:Str)(sc:Scope):Prop where
 kind:sc.kind=.function
 co:sc.isCoroutine=false
 gen:sc.isGenerator=false
 nocell:∀y∈sc.names,y.2≠.cell
 loc:sc.names.lookup x=some .local
noncomputable def MW (x:Str)(S:Scope):Bool:=S.kind==.function&&!S.isCoroutine&&!S.isGenerator&&S.names.all (λy=>!(y.2==.cell))&&S.names.lookup x==some .local
def OO (h:MW x sc=true):GO x sc:=by
 unfold MW at h;simp only[ak,aL,not_eq_true']at h;obtain⟨⟨⟨⟨e,d⟩,c⟩,b⟩,a⟩:=h;refine⟨e,d,c,λy H=>?_,a⟩
 have:=cw.mp b y H
 simpa using this
section
variable {w:World}{K:Frag}{cd:Value}{cl:b0}{A:Around}{outer:bZ}{s:Shared}{E:XK}
def DX {X:Heap}{T:Tok}(S:GO x scope)(Y:A.handled=none)(d:J3 P w K mg base A outer s H)(C:Z0 base N scope cl vs)(r:RelV v u)(q:X.Ns s.heap.objs.size λy=>[(x,u)].reverse.lookup y)(t:∀b o,s.heap.get? b=some o->X.get? b=some o):
  Inv (kA P w K mg base (x::N) qual scope f cd cl A outer s H E) [] (L2.start (x::N) (v::vs)) H { s with heap:=X,toks:=T }:=by
 have n:∀b:Addr,b∉(kA P w K mg base (x::N) qual scope f cd cl A outer s H E).ex:=λb z=>absurd (show b∈([]:bR) from z) (by simp)
 have bk:∀c v,base.IsCell c v->X.IsCell c v/\H c=none:=λc v ⟨o,B,Y⟩=>⟨⟨o,t _ _ (d.bs _ _ B).1,Y⟩,(d.bs _ _ B).2⟩;refine⟨⟨d.mod,S.kind,rfl,rfl,aq _,C.inj,λy g=>?_,λy c z _=>(nomatch z),λ_=>Y,Around.frames_deeper d.frames,.inr ⟨rfl,rfl⟩,λb z=>absurd z (n b),d.bs,d.bsz,λb _ _=>n b,λb z=>absurd z (n b),d.funs,d.frf⟩,
  rfl,d.bare,Un.kept t,⟨_,q,λi y j X U Q=>?_⟩,λy c h=>?_,d.hok.fresh (aq _),λy c h=>?_,λp I=>absurd (show p∈([]:bS) from I) (by simp),d.hok.kept t,?_⟩
 ·have g:scope.names.lookup y=some .cell∨scope.names.lookup y=some .free:=g
  rcases g with g|g
  ·exact absurd rfl (S.nocell _ (PySem.mem_of_lookup g))
  ·exact C.has y g
 ·have D:L2.start (x::N) (v::vs)=some v::L2.start N vs:=by unfold L2.start;simp only[aR,a6,Nat.add_sub_add_right,List.cons_append]
  rw[D]at U;cases i with
  |zero=>
   have M:some x=some y:=X;cases M;have L:some (some v)=some (some j):=U;cases L;exact⟨u,r,.inl ⟨S.loc,by show [(x,u)].lookup x=some u;simp⟩⟩
  |succ i=>
   have X:N[i]? =some y:=X;have U:(L2.start N vs)[i]? =some (some j):=U;have l:i<vs.length:=by
    unfold L2.start at U
    by_cases l:i<vs.length
    ·exact l
    ·rw[au (by simpa using l)]at U
     rw[bb]at U
     split at U<;>cases U
   have J:vs[i]? =some j:=by
    unfold L2.start at U;rw[ah (by simpa using l),ax]at U
    cases e:vs[i]? with|none=>rw[e]at U;cases U|some a=>rw[e]at U;cases U;rfl
   obtain⟨c,u,k,e,z,r⟩:=C.val i y j X J;exact⟨u,r,.inr ⟨.inr k,c,e,(bk _ _ z).1⟩⟩
 ·obtain⟨v,z⟩:=C.cell y c h
  exact⟨v,(bk _ _ z).1⟩
 ·obtain⟨v,z⟩:=C.cell y c h
  exact(bk _ _ z).2
 ·unfold L2.start
  show _=(x::N).length;rw[aw,ag,bo,a6,a6,C.len];lia
inductive SV (K:Frag)(a:Addr)(ob:Obj)(u:HO)(c:Addr)(oc:Obj)(uc:HO)(vs:List V)(g:Fn)(us:List V)(H:Hp)(Q:VK)(E:XK):Prop
 |mk (e:us.length=1) (h1:H a=some (.frz ob u)) (h2:H c=some (.frz oc uc)) (φ:bR) (A:Hx) (ws:List W) (S:zL K φ A H) (r:zC K φ H ws (us++vs)) (q:(g ws A).post (PB K φ H Q) (EB K φ H (yW K E)))
def CS {k:Nat}{name:Str}{params:Arguments}{body:Expr}{pm ctv:Value}{j:Obj}{u uc:HO}{m:Ev}(S:GO x scope)(C:Z0 base N scope cl vs)(B:TY j qual)
  (g:∀(A:Around)(outer:bZ)(s:Shared)(H:Hp)(E:XK),jb k (A.deeper (envX qual scope s.heap.objs.size a (.ref c) cl))->wy (kA P w K mg base (x::N) qual scope a (.ref c) cl A outer s H E) s.heap (yW K E)->
   SE (kA P w K mg base (x::N) qual scope a (.ref c) cl A outer s H E) (yW K E) body m):
  yi P w K mg base (wD P w) (k+1) a (kla_fn name qual params body scope cl pm (.ref c) ctv) [x] (SV K a (kla_obj name qual params body scope cl pm c ctv) u c j uc vs λws A=>m (ws.map some) A):=by
 refine⟨λus H Q E h=>by cases h with|mk e=>rw[e];rfl,λA outer s H args us i Q E q n hb r h=>?_⟩
 obtain⟨he,h1,h2,φ,A1,ws,Sm,M,hp⟩:=h;obtain⟨v,rfl⟩:∃v,i=[v]:=by
  cases i with
  |nil=>cases he|cons v t=>cases t with|nil=>exact⟨v,rfl⟩|cons _ _=>cases he
 obtain⟨X,rfl,ru⟩:=r.one;have ho:s.heap.get? a=some (kla_obj name qual params body scope cl pm c ctv):=(show qV P w H s.heap a (.frz _ u) from n.hok a _ h1).1
 have hc:s.heap.get? c=some j:=(show qV P w H s.heap c (.frz j uc) from n.hok c _ h2).1
 have lim:s.heap.NoLimit:=n.mod.nolimit.keeps λb o e=>(n.bs b o e).1;obtain⟨U,Y,L,hd2⟩:=B;refine kla_callFunE q.depth ho rfl S.co S.gen rfl ⟨c,j,U,Y,rfl,hc,L,hd2⟩ (hb _ _ _ _ ?_);refine wpAny_newFunctionEnv (λy p=>S.nocell y p) (λy p=>?_) (λd D l=>⟨lim.fresh _ l,?_⟩) S.kind
 ·have:y=(x,X):=by simpa using p
  rw[this];exact S.loc
 show codeAny _ _ (.expr body (envX qual scope s.heap.objs.size a (.ref c) cl)) _ _;have f:∀b o,s.heap.get? b=some o->d.get? b=some o:=λb o e=>l.extBut b o (aO (aM e)) (af _ e);have I:∀T,Inv (kA P w K mg base (x::N) qual scope a (.ref c) cl A outer s H E) [] (L2.start (x::N) (v::vs)) H { s with heap:=d,toks:=T }:=λT=>DX S q.hd n C ru D f
 refine kla_codeExpr (wpAny_mono (g A outer s H E (q.deeper _) M0 [] _ (L2.start (x::N) (v::vs)) H Q (I _) ⟨φ,A1,_,Sm,RE.start (N:=x::N) M,?_⟩) (λv s' hv=>?_) λ_ _ y=>y)
 ·have:(x::N).length-ws.length=0:=by rw[M.length];simp[C.len]
  rw[this,List.replicate_zero,a5];exact hp
 ·obtain⟨y,H',J,Z,qq⟩:=hv
  exact⟨y,H',J.os,J.bare,J.base,J.hok,Z,qq⟩
end
def gk (D B:Heap):Prop:=∀b o,D.get? b=some o->B.get? b=some o
def gM (P:Program)(w:World)(K:Frag)(M:bY)(b:Heap)(j:Nat)(p:Obj->Addr->Obj->List V->Prop)(g:Fn):Prop:=
 ∀a ob u c o U v,p ob c o v->(∃f,ob.data=.func f)/\∃(f:FuncData) (ps:bU),yi P w K M b (wD P w) j a f ps (SV K a ob u c o U v g)/\∀(s:Shared)(us:bQ),us.length=1->BindsTo s f ⟨us,[]⟩ (ps.zip us)
structure Ww (P:Program)(w:World)(K:Frag)(mg:bY)(j:Nat)(q x:Str)(t:Lm):Prop where
 sc:GO x t.scope
 bind:∀(cl:b0)(pm cdv ctv v:Value),bindArgs (kla_fn "<lambda>" q t.params t.body t.scope cl pm cdv ctv) ⟨[v],[]⟩=pure [(x,v)]
 body:∀(base:Heap)(cl:b0)(a c:Addr)(A:Around)(outer:bZ)(s:Shared)(H:Hp)(E:XK),jb j (A.deeper (envX q t.scope s.heap.objs.size a (.ref c) cl))->wy (kA P w K mg base (x::t.N) q t.scope a (.ref c) cl A outer s H E) s.heap (yW K E)->
  SE (kA P w K mg base (x::t.N) q t.scope a (.ref c) cl A outer s H E) (yW K E) t.body t.m
structure Y8 (D:Heap)(P:Program)(w:World)(K:Frag)(mg:bY)(j:Nat)(q:Str)(t:Lm):Prop where
 sc:G0 t.N t.scope
 bind:∀(cl:b0)(pm cdv ctv:Value),bindArgs (kla_fn "<lambda>" q t.params t.body t.scope cl pm cdv ctv) ⟨[],[]⟩=pure []
 body:∀(base:Heap)(cl:b0)(a c:Addr)(A:Around)(outer:bZ)(s:Shared)(H:Hp)(E:XK),gk D base->jb j (A.deeper (envX q t.scope s.heap.objs.size a (.ref c) cl))->wy (kA P w K mg base t.N q t.scope a (.ref c) cl A outer s H E) s.heap (yW K E)->
  SE (kA P w K mg base t.N q t.scope a (.ref c) cl A outer s H E) (yW K E) t.body t.m
def Z0.sub {B:Heap}{cl:b0}(h:Z0 base N sc cl vs)(k:gk base B):Z0 B N sc cl vs:=
 have K:∀{c v},base.IsCell c v->B.IsCell c v:=λ⟨o,H,f⟩=>⟨o,k _ _ H,f⟩
 ⟨h.len,h.inj,h.has,λx c e=>let ⟨v,z⟩:=h.cell x c e;⟨v,K z⟩,λi x v d E=>let ⟨c,u,a,b,z,r⟩:=h.val i x v d E;⟨c,u,a,b,K z,r⟩⟩
section
variable {w:World}{K:Frag}{D:Heap}{j:Nat}{q:Str}{t:Lm}
def Nn (l:Ww P w K mg j q x t)(e:∀vs,Qb t.idx σ=some vs->Z0 base t.N t.scope (kK env t.scope.names []) vs):gM P w K mg base (j+1) (j8 env q [t] σ 0) λws A=>t.m (ws.map some) A:=by
 rintro a ob u c o g vs ⟨T,i,⟨⟨p,C,rfl⟩,h⟩,d⟩
 cases i;refine⟨⟨_,rfl⟩,_,[x],CS (name := "<lambda>") (params:=t.params) (body:=t.body) (pm:=p) (ctv:=C) (a:=a) (c:=c) (u:=u) (uc:=g) (m:=t.m) l.sc (e vs d) h λA f s H E r X=>l.body base _ a c A f s H E r X,λs U b=>?_⟩;obtain⟨v,rfl⟩:∃v,U=[v]:=by
  cases U with
  |nil=>cases b|cons v t=>cases t with|nil=>exact⟨v,rfl⟩|cons _ _=>cases b
 exact .of_eq (l.bind _ _ _ _ v)
def AB (l:Y8 D P w K mg j q t)(g:gk D base)(f:∀vs,Qb t.idx σ=some vs->Z0 base t.N t.scope (kK env t.scope.names []) vs)(k:Nat):Jc P w K mg base (j+1) (j8 env q [t] σ k) (gj [t] k):=by
 rintro a ob u c o U vs ⟨T,p,⟨⟨I,C,rfl⟩,b⟩,v⟩
 have e:T=t:=cx.mp (mem_of_getElem? p);subst e;refine⟨⟨_,rfl⟩,_,((iu (name := "<lambda>") (params:=T.params) (body:=T.body) (pm:=I) (ctv:=C) (a:=a) (c:=c) (u:=u) (uc:=U) (m:=T.m) l.sc (f vs v) b λA n s H E d x=>l.body base _ a c A n s H E g d x)).imp λM H Q E h=>?_,λs=>.of_eq (l.bind _ _ _ _)⟩;obtain⟨L,J,i,y,A,B,S,r,h⟩:=h;refine⟨L,J,i,y,A,B,S,r,?_⟩;unfold gj at h;rw[p]at h;exact h
end
section
variable {s:Shared}{t:Lm}{j:Nat}{q:Str}
def K2 (I:Inv X o5 σ H s)(C:Qw X):J3 X.prog X.w X.K X.mg (w8 X.base s.heap X.env.cells) X.A X.stack s H/\gk X.base (w8 X.base s.heap X.env.cells):=by
 have kb:gk X.base (w8 X.base s.heap X.env.cells):=λb o e=>Dg I.bk e;have M:Mod X.K X.mg (w8 X.base s.heap X.env.cells):=by obtain⟨f,c,B⟩:=I.mod.blt;exact⟨I.mod.kin.keeps kb,I.mod.glob.keeps kb,⟨f,c.keeps kb,B⟩,I.mod.nolimit.keeps kb⟩
 have bs:∀b o,(w8 X.base s.heap X.env.cells).get? b=some o->s.heap.get? b=some o/\H b=none:=λb o e=>by
  obtain⟨a,E⟩:=O4 e;refine⟨a,?_⟩;rcases E with ⟨d,E⟩|⟨y,E⟩
  ·exact(I.bs b d E).2
  ·exact I.freeC y b E
 refine⟨⟨I.ok.frames,M,bs,Nat.le_of_eq (hideAll_size _ _),frames_at I.stack λb h=>?_,I.stkFree,I.hok,I.bare⟩,kb⟩;cases e:(w8 X.base s.heap X.env.cells).get? b with
 |none=>rfl|some o=>
  exfalso;rcases(O4 e).2 with ⟨d,E⟩|⟨y,E⟩
  ·have:=(I.stack.mem h).1
   rw[E]at this;cases this
  ·exact C o5 σ H s I y b E h
def OF (I:Inv X o5 σ H s)(C:Qw X)(l:Y8 X.base X.prog X.w X.K X.mg j q t)(x:Vq X t):∀k,Jc X.prog X.w X.K X.mg (w8 X.base s.heap X.env.cells) (j+1) (j8 X.env q [t] σ k) (gj [t] k):=
 λk=>AB l (K2 I C).2 (λb h=>US I (λy c v e ⟨o,a,d⟩=>⟨o,UH e a,d⟩) x h) k
end
open Classical in
def Qt (i:Nat)(p:Obj->Addr->Obj->List V->Prop)(g:Fn)(M:Ea):Ev:=λa A=>match a[i]? with|some (some (.clo _ ws P))=>if P=p then zO (λu=>g (u++ws)) M a A else .bad|_=>.bad
section
variable {K:Frag}{oP:bR}{H':Hp}
mutual
theorem RV.nar (E:∀(n:Nat)(a:Addr),φ[n]? =some a->oP[n]? =some a):∀{w:W}{v l:V},RV K φ H w l->RV K oP H' w v->RV K φ H' w v
 |.non,_,_,_,h=>h|.bl _,_,_,_,h=>h|.int _,_,_,_,h=>h|.str _,_,_,_,h=>h|.tup j,_,_,⟨_,_,_,_,b⟩,⟨a,g,e,t,r⟩=>⟨a,g,e,t,zC.nar E b r⟩|.ref n,_,_,⟨A,_,i⟩,⟨a,e,f⟩=>⟨a,e,by rw[<- aE ((E _ _ i).symm.trans f)];exact i⟩|.clo _ j P,_,_,⟨_,_,_,_,_,_,_,_,_,_,_,b⟩,⟨a,ob,u,c,o,uc,g,e,h1,h2,d,r⟩=>⟨a,ob,u,c,o,uc,g,e,h1,h2,d,zC.nar E b r⟩|.xc x,_,_,_,h=>h|.fn _,_,_,_,h=>h
theorem zC.nar (E:∀(n:Nat)(a:Addr),φ[n]? =some a->oP[n]? =some a):∀{c:List W}{d b:List V},zC K φ H c b->zC K oP H' c d->zC K φ H' c d
 |[],_,_,_,h=>h|w::c,_,_,⟨_,_,_,h0,t0⟩,⟨v,r,e,h,t⟩=>⟨v,r,e,RV.nar E h0 h,zC.nar E t0 t⟩
end
theorem OR.nar (x:∀(n:Nat)(a:Addr),φ[n]? =some a->oP[n]? =some a){o:O}(i:OR K φ H b o)(h:OR K oP H' a o):OR K φ H' a o:=by
 cases o with|lst j=>obtain⟨_,_,c⟩:=i;obtain⟨v,e,r⟩:=h;exact⟨v,e,zC.nar x c r⟩|ro j=>obtain⟨_,_,c⟩:=i;obtain⟨v,e,r⟩:=h;exact⟨v,e,zC.nar x c r⟩|dct g=>obtain⟨_,_,_,c⟩:=i;obtain⟨v,e,E,r⟩:=h;exact⟨v,e,E,zC.nar x c r⟩|td g=>obtain⟨_,_,_,_,c⟩:=i;obtain⟨X,e,E,d,r⟩:=h;exact⟨X,e,E,d,zC.nar x c r⟩|tr g=>obtain⟨_,_,_,_,_,_,_,c⟩:=i;obtain⟨ob,u,X,e,E,d,f,r⟩:=h;exact⟨ob,u,X,e,E,d,f,zC.nar x c r⟩|tab q P=>exact h
def zL.forget {b:bR}{d:Hp}{us ws2:List W}(S:zL K φ A H)(p:zL K b B d)(l:Le K φ H b d)(D:A[n]? =some (.lst us))(v:∀i,i<A.length->i≠n->B[i]? =A[i]?)(u:B[n]? =some (.lst ws2))(nr:qR ws2=true):
  zL K φ (A.set n (.lst ws2)) d/\Le K φ H φ d:=by
 have g:n<A.length:=(cm.mp D).1;have at_:∀i o,(A.set n (.lst ws2))[i]? =some o->B[i]? =some o:=λi o e=>by
  by_cases q:n=i
  ·subst q
   rw[ar g]at e;cases e;exact u
  ·rw[av q]at e
   rw[v i (cm.mp e).1 (Ne.symm q)];exact e
 refine⟨⟨by rw[bw];exact S.len,λi j a o I N L y x J M=>p.inj i j a o I (l.ex _ _ N) (l.ex _ _ L) (at_ _ _ y) (at_ _ _ x) J M,λi o e=>?_⟩,⟨λ_ _ h=>h,l.tp,l.fr,λ_ _ h=>.inl h,l.st,l.fz⟩⟩
 obtain⟨a,f,r⟩:=p.ob i o (at_ i o e)
 by_cases q:n=i
 ·subst q
  rw[ar g]at e;cases e;obtain⟨c,C,_⟩:=S.ob n _ D;have E:c=a:=aE ((l.ex _ _ C).symm.trans f);subst E;exact⟨c,C,r.nrL nr⟩
 ·rw[av q]at e
  obtain⟨c,C,t⟩:=S.ob i o e;have E:c=a:=aE ((l.ex _ _ C).symm.trans f);subst E;exact⟨c,C,t.nar l.ex r⟩
def zL.tell {U:List W}(S:zL K φ A H)(x:A[n]? =some (.lst U))(h:∀vs,zC K φ H U vs->zC K φ H ws vs):zL K φ (A.set n (.lst ws)) H:=by
 have l:n<A.length:=(cm.mp x).1;have at_:∀(i:Nat)(o:O),(A.set n (.lst ws))[i]? =some o->∃v:O,A[i]? =some v/\v.mut=o.mut:=λi o e=>by
  by_cases q:n=i
  ·subst q
   rw[ar l]at e;cases e;exact⟨_,x,rfl⟩
  ·rw[av q]at e
   exact⟨o,e,rfl⟩
 refine⟨by rw[bw];exact S.len,λi j a o v D C u t B M=>?_,λi o e=>?_⟩
 ·obtain⟨p,c,b⟩:=at_ i o u
  obtain⟨d,y,P⟩:=at_ j v t;exact S.inj i j a p d D C c y (b.trans B) (P.trans M)
 ·by_cases q:n=i
  ·subst q
   rw[ar l]at e;cases e;obtain⟨a,f,vs,g,r⟩:=S.ob n _ x;exact⟨a,f,vs,g,h vs r⟩
  ·rw[av q]at e
   exact S.ob i o e
end
def PJ:Obj->Addr->Obj->List V->Prop:=λ_ _ _ _=>True
def PU (p P:Obj->Addr->Obj->List V->Prop):Obj->Addr->Obj->List V->Prop:=λob c o b=>p ob c o b∨∃v a,b=v::a/\P ob c o a
noncomputable def Ya (n:Nat)(b M:Ev):Fn:=λa A=>if a.length=n+1 then b (a.map some) A else M ((a.eraseIdx 1).map some) A
def gM.or {w:World}{K:Frag}{j:Nat}{l p:Obj->Addr->Obj->List V->Prop}{Y X:Ev}
  (h0:gM P w K mg base j l λws A=>Y (ws.map some) A)(h1:gM P w K mg base j p λws A=>X (ws.map some) A)(D:∀ob c o vs,l ob c o vs->vs.length=n)(L:∀ob c o vs,p ob c o vs->vs.length+1≠n):
  gM P w K mg base j (PU l p) (Ya n Y X):=by
 intro a ob u c o T vs h;rcases h with h|⟨v,f,rfl,h⟩
 ·obtain⟨d,N,ps,F,b⟩:=h0 a ob u c o T vs h
  refine⟨d,N,ps,F.imp λU H Q E z=>?_,b⟩;obtain⟨e,i,g,M,A,ws,S,r,q⟩:=z;refine⟨e,i,g,M,A,ws,S,r,?_⟩;unfold Ya at q;rw[ai (by rw[r.length,aw,e,D _ _ _ _ h,add_comm])]at q
  exact q
 ·obtain⟨d,N,ps,F,b⟩:=h1 a ob u c o T f h
  refine⟨d,N,ps,F.imp λU H Q E z=>?_,b⟩;obtain⟨e,i,g,M,A,ws,S,r,q⟩:=z;obtain⟨y,rfl⟩:∃y,U=[y]:=by
   cases U with
   |nil=>cases e|cons y t=>cases t with|nil=>exact⟨y,rfl⟩|cons _ _=>cases e
  cases ws with
  |nil=>exact nomatch r.length
  |cons B ws=>cases ws with
   |nil=>exact nomatch r.length
   |cons I ws=>
    obtain⟨_,_,z,C,_,_,Z,_,x⟩:=r;cases z;cases Z;unfold Ya at q;have J:=x.length
    have:=L _ _ _ _ h
    rw[aj (by simp only[a6];lia)]at q
    exact⟨e,i,g,M,A,B::ws,S,.cons C x,q⟩
open Classical in
def XT (A:Hx)(w:W)(u v:List W)(p P:Obj->Addr->Obj->List V->Prop)(i I:Nat)(X x:bT)(g:W->List W->List W->Hx->R W):Ev:=λa B=>
 if B=A++[.lst [.clo 0 [] p,.clo 0 [] P]]/\a[I]? =some (some w)/\a[i]? =some (some (.ref A.length))/\gR X a=some u/\gR x a=some v then g w u v A else .bad
def YX (n:Nat)(q:Str)(P:Addr)(i I:Nat)(b X:bT)(g:W->List W->List W->Hx->R W):Ex:=λa A=>match A[n]? with
 |some (.tab Q P')=>if Q=q/\P'=P/\i < a.length then(match (a.set i (some (.ref A.length)))[I]?,gR b (a.set i (some (.ref A.length))),gR X (a.set i (some (.ref A.length))) with
  |some (some w),some us,some vs=>(g w us vs A).bind λx c=>match x with|.bl true=>.ok (.nx (a.set i (some (.ref A.length)))) c|_=>.bad
  |_,_,_=>.bad) else .bad
 |_=>.bad
section
variable {q:Str}{g:W->List W->List W->Hx->R W}{fN:(Obj->Addr->Obj->List V->Prop)->Fn}
def SU (f:(Obj->Addr->Obj->List V->Prop)->Fn)(g:W->List W->List W->Hx->R W)(P:Obj->Addr->Obj->List V->Prop)(w:W)(u v:List W)(A:Hx):Prop:=
 g w u v A=.bad∨∃B n l L,f P [w,.ref A.length] (A++[O.lst [.clo 0 u P,.clo 0 (.non::v) P]])=.ok (.bl true) B/\g w u v A=.ok (.bl true) ((A++[O.lst [.clo 0 [] PJ,.clo 0 [] PJ]]).set n (.lst L))/\A[n]? =some (.lst l)/\qR L=true/\B[n]? =some (.lst L)/\
  ∀i,i<A.length+1->i≠n->B[i]? =(A++[O.lst [.clo 0 u P,.clo 0 (.non::v) P]])[i]?
def told {K:Frag}{t:Lm}(f:RE K φ H ρ σ)(E:gR t.idx ρ=some ws)(h:RV K φ H (.clo 0 [] (wB env q [t] 0)) v):
  ∃a ob u c o uc vs,v=.ref a/\H a=some (.frz ob u)/\H c=some (.frz o uc)/\j8 env q [t] σ 0 ob c o vs/\zC K φ H ws vs:=by
 obtain⟨a,ob,U,C,o,uc,d,rfl,i,g,⟨T,e,gp⟩,_⟩:=h;cases e;obtain⟨b,j,r⟩:=UM f E;exact⟨a,ob,U,C,o,uc,b,rfl,i,g,⟨t,rfl,gp,j⟩,r⟩
def Mo {t:Lm}{ob:Obj}{o:Obj}(h:j8 env q [t] σ 0 ob c o vs):vs.length=t.idx.length:=by obtain⟨T,e,_,C⟩:=h;cases e;exact(U0 C).1
end
open PySem PySem.Spec PyProof.Rows L2 Mi
@[irreducible] def VP (X:Cx)(x:XR)(e:bW)(M:List Ev):Prop:=Mi.SJ X x e M
def Mp:@VP=@Mi.SJ:=by delta VP;rfl
section
def ZD {g:Heap}{E:bW}{k:Nat}{f:Fn}(o:wy X g xr)(F:jn X.prog X.w X.K X.mg X.base k x n f)(i:jb k X.A)(C:gn X xr (e::E) mr)(j:Qe mr n:=by repeat' (first|exact zK|refine zu ?_))(u:Gl X x:=by rfl)
  (c:yA x:=by decide)(he:ja e E X:=by rfl)(l:we o6 E X:=by rfl):
  zy X xr (.Call (.Name x p) (e::E) [] o6) (zO f mr):=by
 simp only[zY,Mp]at*;obtain⟨fa,fd,ps,F,hm,t,B⟩:=F;refine PE.imp (Np F i u hm t B .nil o.passes C c he l) λσ H Q ⟨Z,A,T,S,re,h⟩=>?_;have P:=zV.mp h;refine⟨Z,A,T,S,re,?_⟩;cases r:mr T A with
 |ok Y U=>
  rw[r]at P;intro b H1 vs L J q;have v:vs.length=n:=by rw[<- q.length];exact j T A Y U r
  rw[a5];refine⟨v,b,U,Y,J,q,qy P (λ_ _ z=>z.mono L) λy A2 z a M d I N D=>?_⟩;exact⟨y,N,rfl,D,z a M (L.trans d) I⟩
 |exc y U=>rw[r]at P;exact P|bad=>rw[r]at P;exact P
def Xj {m:Ev}(h:yQ X.nox jR e m):yQ X xr e λρ A=>(m ρ A).nox:=by
 simp only[zY,Mp]at*;refine PT.imp (PT.nox h) λc H Q ⟨a,A,ρ,S,r,q⟩=>⟨a,A,ρ,S,r,?_⟩;cases E:m ρ A with|ok w b=>(try dsimp only at q);rw[E]at q;exact q|exc y b=>(try dsimp only at q);rw[E]at q;exact q.elim|bad=>(try dsimp only at q);rw[E]at q;exact q.elim
def OZ {M:Ex}{a:cb}(h:yy X.nox jR a M):yy X xr a λρ A=>(M ρ A).nox:=by
 simp only[zY,Mp]at*;refine yP.imp (yP.nox h) λD d H ⟨b,A,ρ,S,r,q⟩=>⟨b,A,ρ,S,r,?_⟩;cases e:M ρ A with|ok w c=>(try dsimp only at q);rw[e]at q;exact q|exc y c=>(try dsimp only at q);rw[e]at q;exact q.elim|bad=>(try dsimp only at q);rw[e]at q;exact q.elim
def GG {g:Heap}{E:bW}{top:Str}{N:Pos}(o:wy X g xr)(c:UZ X.K top x)(d:gn X xr (e::E) mr)(l:Qe mr n:=by repeat' (first|exact zK|refine zu ?_))(f:n<=sizeLine:=by decide)(a:Gl X x:=by rfl)(h:X.calm=true:=by rfl)
  (b:yA x:=by decide)(i:ja e E X:=by rfl)(H:we o8 E X:=by rfl):
  yn X xr (.Raise (some (.Call (.Name x N) (e::E) [] o8)) none o6) (Mv x mr):=by
 simp only[zY,Mp]at*;exact BA o c.at_ c.exc PySem.F.excBase_ValueError d l f a h b i H
def i3 {w:World}{K:Frag}{D:Stmt}{ps:bU}{k:Nat}{m:Ex}(F:kS K x x D f fd)(hm:mg x=some (.ref f))(S:k9 N ps (qc D))
  (j:∀(kV J X:Value)(Y:b9)(c ct:Value)(U:bQ),U.length=ps.length->bindArgs (fnOf x x (Zd D) (jO D) (qc D) .none kV J X Y c ct) ⟨U,[]⟩=pure (ps.zip U))
  (a:∀(c:Value)(A:Around)(C:bZ)(s:Shared)(H:Hp)(E:XK),jb k (A.deeper (envOfC x (qc D) s.heap.objs.size f c))->
   wy (yU (wD P w) P w K mg base N x (qc D) f c A C s H E) s.heap (yW K E)->yy (yU (wD P w) P w K mg base N x (qc D) f c A C s H E) (yW K E) (jO D) m):
  jn P w K mg base (k+1) x ps.length (wK N.length m):=by
 simp only[zY,Mp]at*;refine⟨f,fd,ps,?_,hm,F.kp,F.binds j⟩;obtain⟨v,u,kV,J,X,Y,c,ct,o,rfl,lk,d⟩:=F.ex;refine S9 lk d S (λvs H Q E h=>h.len) λA C s H vs Q E i ⟨B,M,Z,L,p,r,h⟩=>⟨_,a c A C s H E i ib,?_⟩;refine⟨M,Z,L.map some++List.replicate (N.length-L.length) none,p,RE.start r,?_⟩;have I:=zV.mp h;show R.post _ (FB K M H _) _;cases e:m (L.map some++List.replicate (N.length-L.length) none) Z with
 |ok n A2=>
  rw[e]at I;cases n with|rt w=>exact I|nx T=>exactλb t g l q _=>I b t .non l q rfl|bk T=>exact I.elim|ct T=>exact I.elim
 |exc y A2=>rw[e]at I;exact I|bad=>rw[e]at I;exact I.elim
def i4 {L:Addr}{j:Nat}{l:Nat}{n:Str}{y:Str}{xD:Str}{cs:bU}{PG:Nat->Obj->Addr->Obj->List V->Prop}{lam:Nat->Fn}{Y:bQ}{oZ:String}{np:Pos}{cp:Pos}{ep:Pos}{dp:Pos}{yp:Pos}{M:Pos}{ap:Pos}{hp:Pos}(hL:∀k,Jc X.prog X.w X.K X.mg X.base kk (PG k) (lam k))(hr:jb kk X.A)(hst:X.stack=X.env::X.outer)(hFr:X.env.frame=some L)(hD:ko X.K xD (.ref D))(exD:Mi.ZK X.K D Y oZ=true)(hbD:Y.contains (.type "BaseException")=true)
  (hcs:∀c,cs.contains c=true->∀C,ko X.K c (.ref C)->∃E f,Mi.ZK X.K C E f=true/\J5 X.K C D=true)
  (hN:X.N.Nodup)(hi:X.N[i]? =some x)(hx:X.env.scope.names.lookup x=some .local)(hl:X.N[l]? =some n)(hn:X.env.scope.names.lookup n=some .local)(hj:X.N[j]? =some y)(hy:X.env.scope.names.lookup y=some .local)
  (hg:Gl X xD)(hs1:swapsWith (.Call (.Name x np) [] [] cp) none ep.line X.env=pure false:=by rfl)(hs2:swapsWith (.Name n M) (some (.Name y yp)) ap.line X.env=pure false:=by rfl)
  (hdx:yA x:=by decide)(hdn:yA n:=by decide)(hdD:yA xD:=by decide):
  yn X xr (.Try [.Expr (.Call (.Name x np) [] [] cp) ep] [.ExceptHandler (some (.Name xD dp)) (some n) [.Assign [.Name y yp] (.Name n M) ap] hp] [] [] o6) (WJ i j l cs PG lam):=by
 simp only[zY,Mp]at*;intro o5 s σ H D0 I ⟨φ,A,ρ,S,re,h⟩;unfold WJ Vk at h;cases ei:ρ[i]? with
 |none=>rw[ei]at h;exact h.elim|some ow=>
  cases ow with
  |none=>rw[ei]at h;exact h.elim|some w=>
   rw[ei]at h;cases w with
   |clo k ws P=>
    dsimp only at h
    by_cases hP:P=PG k
    ·rw[ai hP]at h
     subst hP;obtain⟨v,hv,a,ob,u,c,oc,uc,vs,rfl,h1,h2,hp',rvs⟩:=re.get i _ ei;obtain⟨⟨fd0,hfd⟩,fd,F,hb⟩:=hL k a ob u c oc uc vs hp';have ho:s.heap.get? a=some ob:=(show qV X.prog X.w H s.heap a (.frz ob u) from I.hok a _ h1).1
     refine ij (i:=l) (L:=L) (k:=ze2 X.K φ H ρ j l D0)
      I hst hFr hD exD hbD hN hl (.inl hn) ?body ?t hg hdD (.inr hn)
     case body=>
      refine wpAny_execs_cons (wpAny_Expr_any ?_ I.quiet hs1);obtain⟨m,hns,T⟩:=I.loc;obtain⟨u',r',lk⟩:=T i x (.ref a) hi hv (.inl hx);obtain rfl:u'=Value.ref a:=r';have hm:m x=some (.ref a):=by
       rcases lk with ⟨_,e⟩|⟨q|q,_⟩
       ·exact e
       ·rw[show X.env.kindOf x=some .local from hx]at q;cases q
       ·rw[show X.env.kindOf x=some .local from hx]at q;cases q
      refine wpAny_Call_Name_kw (wpAny_Name (wpAny_loadName_local I.ok.kind hx hns hm ?_) hdx);have hK:Frag.In [(a,ob)] s.heap:=λb o e=>by
       rw[bC]at e
       by_cases hb:b=a
       ·subst hb;simp at e;subst e;exact ho
       ·have:(b==a)=false:=by simpa using hb
        rw[this]at e;cases e
      have hkp:keepIn [(a,ob)] (.ref a)=true:=by
       unfold keepIn;obtain⟨o1,o2,o3,o4⟩:=ob;cases (show o3=_ from hfd)
       simp[bC]
      refine PySem.W.callWith_K0 (K:=[(a,ob)]) (first:=[]) hK hkp ?_;refine wpAny_call (codeAny_mono (F.run X.A X.stack s H ⟨[],[]⟩ [] [] (λ_ H1=>D0.nx σ H1)
       (zeP X.K φ H ρ j l D0 cs)
       hr I.env0 (hb s) .nil ⟨rfl,h1,h2,φ,A,ws,S,rvs,?_⟩) λr s' p=>?_)
      ·cases er:lam k ws A with
       |ok w1 A1=>
        rw[er]at h;exactλd H' v' B Z _=>h d H' σ B Z (re.mono B)
       |exc J A1=>
        rw[er]at h;dsimp only at h
        by_cases U:cs.contains J=true
        ·rw[ai U]at h
         exactλd H' B Z Ca g=>⟨J,Ca,rfl,g,U,d,A1,B,Z,h⟩
        ·rw[aj U]at h;exact h.elim
       |bad=>rw[er]at h;exact h.elim
      ·cases r with
       |error e=>
        unfold CR at p;dsimp only at p;have un:∀b o,s.heap.get? b=some o->∃o',s'.heap.get? b=some o':=by obtain⟨_,_,_,_,_,_,un,_⟩:=p;exactλb o e=>un.there b o e (by simp)
        obtain⟨ea,C,H',rfl,I',ly,tr,J,Ca,ec,g,U,oU,A1,l1,S1,hn1⟩:=Ot I p s.heap λb o e=>⟨o,e⟩;cases ec;obtain⟨E,f,exC,up⟩:=hcs J U C g;exact⟨ea,C,H',E,f,rfl,I',ly,tr,un,exC,up,λoe hoe Q=>⟨J,oU,A1,l1.trans (Le.new Q),S1.lay Q,⟨ea,oe,.own 0,C,rfl,jN,hoe,g⟩,hn1⟩⟩
       |ok fl=>
        cases fl with
        |ret u1=>
         obtain⟨v1,H1,I1,_,q1⟩:=I.after p;exact wpAny_execs_nil ⟨rfl,σ,H1,I1,q1⟩
        |next=>exact False.elim p|brk=>exact False.elim p|cont=>exact False.elim p
     case t=>
      rintro ea C H2 s2 I2 ⟨J,d,A',B,Z,rx,hn'⟩ E'
      refine E7 (i:=l) (j:=j) I2 hN hl hj hn (.inl hy) (λs' I'=>?_) hs2 (.inr hy) hdn;exact⟨_,H2,I',hn' d H2 _ B Z ((((re.mono B).set rx).set rx).unset)⟩
    ·rw[aj hP]at h;exact h.elim
   |_=>exact h.elim
def kH {m:Ev}{P:Pos}{f:Str->Option Bool}{C:Addr}(b:Wv X.K f (.ref C))(d:ko X.K x (.ref C))(o:X.mg "isinstance"=none)(i:zy X xr e m)(g:Gl X "isinstance":=by rfl)(a:Gl X x:=by rfl)(q:yA x:=by decide)
  (l:starEach [e,.Name x P] X.env=(false,eval e X.env)::starEach [.Name x P] X.env:=by rfl)(t:(backTo o6 (starEach [.Name x P] X.env)).any (·.1)=false:=by rfl):
  zy X xr (.Call (.Name "isinstance" p) [e,.Name x P] [] o6) (ye f m):=by
 simp only[zY,Mp]at*;have c:PE X (.Name x P) (tC (.ref C)):=λj s n H Q I h=>YR I a (mg_of I.mod.kin I.mod.glob d) ⟨.ref C,H,I,rfl,h⟩ q;exact PE.imp (QZ (OL (cv:=.ref C) b λu r=>r) g o (by rfl) (jw i (jw c yg) l) (by decide) (by decide) l t) (ye.read λn H Q h=>h)
def C3 {m:Ev}{P:Pos}{f:Str->Option Bool}{T:String}(c:Wv X.K f (.type T))(l:X.mg "isinstance"=none)(a:X.mg x=none)(d:bootBuiltins x=some (.type T))(i:zy X xr e m)(g:Gl X "isinstance":=by rfl)(b:Gl X x:=by rfl)(n:x ≠ "__name__":=by decide)(o:yA x:=by decide)
  (j:starEach [e,.Name x P] X.env=(false,eval e X.env)::starEach [.Name x P] X.env:=by rfl)(q:(backTo o6 (starEach [.Name x P] X.env)).any (·.1)=false:=by rfl):
  zy X xr (.Call (.Name "isinstance" p) [e,.Name x P] [] o6) (ye f m):=by
 simp only[zY,Mp]at*;exact PE.imp (QZ (OL (cv:=.ty T) c λu r=>r) g l (by rfl) (jw i (jw (Xp b a d (v:=.ty T) rfl n o) yg) j) (by decide) (by decide) j q) (ye.read λt H Q h=>h)
def Ni {k:Nat}{q:Str}{ls:List Lm}{t:Lm}(b:ls[k]? =some t)(L:JS X.N X.env.scope t=true)(B:BMain X.mg X.base)(h:X.env.code=.ref c)(C:CodeHd X.base c Pt)(a:X.env.qual ++ "<lambda>"=q)(H:defaultsOf t.params X.env=([],[])):
  zy X xr (.Lambda t.params t.body t.scope o6) (wO n q Pt k (wB X.env q ls k)):=by
 simp only[zY,Mp]at*;exact Mi.NJ b L B h C a H
def Ax {m:Ev}{a:Pos}{P:Pos}{pt:Pos}{I:Str}{D:Str}{K:Nat}(t T:Ty)(Y:X.mg "isinstance"=none)(n:X.mg I=none)(j:X.mg D=none)(f:bootBuiltins I=some (.type t.nm))(d:bootBuiltins D=some (.type T.nm))(C:zy X xr e m)(B:Gl X "isinstance":=by rfl)(q:Gl X I:=by rfl)(o:Gl X D:=by rfl)
  (i:I ≠ "__name__":=by decide)(r:yA I:=by decide)(g:D ≠ "__name__":=by decide)(M:yA D:=by decide)
  (h0:starEach [.Name I a,.Name D P] X.env=(false,eval (.Name I a) X.env)::starEach [.Name D P] X.env:=by rfl)(u:starEach [.Name D P] X.env=(false,eval (.Name D P) X.env)::starEach [] X.env:=by rfl)
  (J:starEach [e,.Tuple [.Name I a,.Name D P] K pt] X.env=(false,eval e X.env)::starEach [.Tuple [.Name I a,.Name D P] K pt] X.env:=by rfl)(Z:(backTo o6 (starEach [.Tuple [.Name I a,.Name D P] K pt] X.env)).any (·.1)=false:=by rfl):
  zy X xr (.Call (.Name "isinstance" p) [e,.Tuple [.Name I a,.Name D P] K pt] [] o6) (L5 t T m):=by
 simp only[zY,Mp]at*;exact PE.imp (QZ CG B Y (by rfl) (jw C (jw (Ml (jw (Xp q n f (v:=.ty t.nm) rfl i r) (jw (Xp o j d (v:=.ty T.nm) rfl g M) yg u) h0)) yg) J) (by decide) (by decide) J Z) λσ H Q ⟨φ,A,ρ,S,U,h⟩=>by
   refine tM.go S U (zV.mp h) λw A1 c H1 v J L x y=>?_;cases E:jq w A1 with
   |none=>rw[E]at J;exact J.elim|some N=>
    rw[E]at J;refine⟨by show 2<=sizeLine;decide,λl b=>⟨v,N,l,rfl,qz.of jN,?_,J c _ _ (L.trans (Le.new b)) (x.lay b) rfl⟩⟩
    exact OS (x.lay b) (y.mono (Le.new b)) E
def Wd {m:Ev}(p:zy X xr e m)(g:wR X tg tw)(f:swapsWithSole [tg] e o6.line X.env=pure false:=by rfl)(o:swappedStores [tg] e X.env=pure none:=by rfl)(i:(assignEach [tg] X.env).map (·.2)=[assign tg X.env]:=by rfl):yn X xr (.Assign [tg] e o6) (Ke m tw):=by
 simp only[zY,Mp]at*;exact PS.imp (Mz p g f o i) λD y H ⟨x,A,j,S,n,h⟩=>by
   refine tM.go S n (zV.mp h) λw u a t v i l d q=>?_;cases E:tw w j with
   |none=>rw[E]at i;exact i.elim|some c=>
    rw[E]at i;exact⟨a,u,j,w,c,d,n.mono l,q,E,λb r=>i a t b l d r⟩
def NU {a:Expr}{b:Expr}{ma:Ev}{mb:Ev}{pt:Pos}{U:Nat}(i j:Nat){y:Str}{P T p:Pos}{Y:Nat}(t:X.calm=true)(C:X.N.Nodup)(B:zy X xr a ma)(u:zy X xr b mb)(r:X.N[i]? =some x:=by rfl)(o:X.N[j]? =some y:=by rfl)(d:i≠j:=by decide)
  (g:X.env.scope.names.lookup x=some .local:=by rfl)(f:X.env.scope.names.lookup y=some .local:=by rfl)
  (hw:swappedStores [.Tuple [.Name x P,.Name y T] U pt] (.Tuple [a,b] Y p) X.env=pure (some [x,y]):=by rfl)
  (n:swapsWithSole [.Tuple [.Name x P,.Name y T] U pt] (.Tuple [a,b] Y p) o6.line X.env=pure false:=by rfl)
  (h1:ja a [b] X:=by rfl)(Z:ja b [] X:=by rfl):
  yn X xr (.Assign [.Tuple [.Name x P,.Name y T] U pt] (.Tuple [a,b] Y p) o6) (iI i j ma mb):=by
 simp only[zY,Mp]at*;exact PS.imp (dj t C r o d g f (jw B (jw u yg Z) h1) hw n) λD σ H ⟨φ,A,ρ,S,M,h⟩=>by refine tM.go S M (zV.mp h) λw A1 e H1 v h1 l I Q=>?_;refine tM.go I (M.mono l) (qy (zV.mp h1) (λ_ _ z=>z) λ_ _ z=>z.mono l) λK A2 c J v2 Z L E q=>?_;exact⟨v,v2,rfl,Z c J _ (l.trans L) E (((M.mono (l.trans L)).set (Q.mono L)).set q)⟩
end
section
def Oc {a:Expr}{b:Expr}{K:Ev}{M:Ev}(C:zy X xr a K)(N:zy X xr b M)(B:ja b [] X:=by rfl)
  (e:attributeBase a "extend" X.env (eval a X.env)=eval a X.env:=by rfl)
  (c:((backTo o8 (starEach [b] X.env)).all (λx=>!x.1)&&(backToKw o8 (keywordEach [] X.env)).all (λx=>x.1.isSome)
   && decide ([b].length+([]:b8).length+(if ([]:b8).isEmpty then 0 else 1)<30))=true:=by rfl)(h:(oR.endLine==o8.line)=true:=by rfl):
  zy X xr (.Call (.Attribute a "extend" oR) [b] [] o8) (yu JA K M):=by
 simp only[zY,Mp]at*;exact X0 PySem.F.slot_list_extend (by kernel_rfl) Cp DC (λT A H x y u v Q S j q p=>by
   unfold JA at p;cases u with
   |ref n=>
    cases v with
    |ref k=>
     dsimp only at p;cases e1:A[n]? with
     |none=>rw[e1]at p;exact p.elim|some o=>cases o with
      |lst I=>
       cases e2:A[k]? with
       |none=>rw[e1,e2]at p;exact p.elim|some t=>cases t with
        |lst U=>
         rw[e1,e2]at p;dsimp only at p
         by_cases d:I.length+U.length<=zX
         ·rw[ai d]at p
          obtain⟨l,E,rfl,L,J,f⟩:=S.lst j e1;obtain⟨D,Z,rfl,Y,P,r⟩:=S.lst q e2;refine⟨l,D,E,Z,rfl,rfl,J,P,?_,?_⟩
          ·rw[<- f.length,<- r.length]
           have:sizeLine=16777216:=sizeLine_eq
           unfold zX at d;lia
          ·obtain⟨i,g⟩:=S.write (o:=.lst I) (o':=.lst (I++U)) e1 rfl rfl L (u:=.lst (E++Z)) ⟨E++Z,jN,(f.append r).mono (Le.upd L (λ_ z=>by rw[J]at z;cases z) λ_ _ z=>by rw[J]at z;cases z)⟩
           exact p _ _ _ i g rfl
         ·rw[aj d]at p;exact p.elim
        |_=>rw[e1,e2]at p;exact p.elim
      |_=>rw[e1]at p;cases e2:A[k]? with|none=>rw[e2]at p;exact p.elim|some _=>rw[e2]at p;exact p.elim
    |_=>exact p.elim
   |_=>cases v<;>exact p.elim) C N B e c h
def EE {m:Ev}{P C:Pos}(o:X.calm=true)(J:X.mg "len"=none)(d:X.mg "set"=none)(u:zy X xr e m)(n:Gl X "len":=by rfl)(f:Gl X "set":=by rfl)(g:ja e [] X:=by rfl)
  (b:starEach [.Call (.Name "set" P) [e] [] C] X.env=(false,eval (.Call (.Name "set" P) [e] [] C) X.env)::starEach [] X.env:=by rfl):
  zy X xr (.Call (.Name "len" p) [.Call (.Name "set" P) [e] [] C] [] o6) (Ar m):=by
 simp only[zY,Mp]at*;exact PE.imp (QZ Cr n J (by rfl) (jw (KU (D4 o) f d (by rfl) (jw u yg g) (by decide) (by decide) g (by rfl)) yg b) (by decide) (by decide) b (by rfl)) λT H Q ⟨M,A,U,S,I,h⟩=>by
   refine tM.go S I (zV.mp h) λw A1 j Z v B L y q=>?_;cases w with
   |tup D=>
    obtain⟨a,Y,rfl,t,r⟩:=q;unfold N7 at B;dsimp only at B
    revert B
    cases x:intsOf D with
    |none=>intro B;exact B.elim|some N=>
     intro B;dsimp only at B;have E:=GQ x;subst E;have K:=zC.ints.mp r;subst K
     by_cases c:N.length<=100
     ·rw[ai c]at B
      refine⟨a,N,rfl,t,c,λl i=>⟨l,_,_,rfl,jN,aZ (firstMet_length_le _ _) c,?_⟩⟩;exact B _ _ _ (L.trans (Le.new i)) (y.lay i) rfl
     ·rw[aj c]at B;exact B.elim
   |_=>exact B.elim
def Xk {a:Expr}{b:Expr}{c:Ev}{M:Ev}(H:zy X xr a c)(h:zy X xr b M):zy X xr (.BinOp a .LShift b o6) (zm iK c M):=by simp only[zY,Mp]at*;exact ZG dH WC (Wq NV λ_ _ _ _=>rfl) H h
end
def Nm {a:Expr}{b:Expr}{c:Ev}{M:Ev}(H:zy X xr a c)(h:zy X xr b M):zy X xr (.BinOp a .Mult b o6) (zm JR c M):=by simp only[zY,Mp]at*;exact ZG iM iN Bb H h
@[irreducible] def Yf (X:Cx)(x:XR)(e:Option Expr)(p:Po):Prop:=Mi.SP X x e p
def i5:@Yf=@Mi.SP:=by delta Yf;rfl
def gK:Yf X xr none Qh:=by simp only[zY,Mp,i5]at*;exact PO.imp d7 λb H Q ⟨a,A,c,S,r,h⟩=>h a H .refl S
def gF {m:Ev}(h:zy X xr e m):Yf X xr (some e) (ku m):=by simp only[zY,Mp,i5]at*;exact Mi.Sn h
def ZZ {a b:Expr}{c M:Ev}(H:zy X xr a c)(h:zy X xr b M):zy X xr (.BinOp a .FloorDiv b o6) (zm X8 c M):=by simp only[zY,Mp]at*;exact ZG CT WC (Wq Aa λ_ _ _ _=>rfl) H h
def BM {y:Expr}{m:Ev}{M:Ev}{P:Pos}(E:zy X xr e m)(f:zy X xr y M):zy X xr (.Subscript e (.Slice none none (some y) P) o6) (Ll m M):=by
 simp only[zY,Mp]at*;exact PE.imp (AU E (Mi.Sn f)) λT H Q ⟨N,A,C,S,B,h⟩=>by
   refine tM.go S B (zV.mp h) λw K b Y v I l n q=>?_;refine⟨b,K,C,n,B.mono l,qy (zV.mp I) (λo Z x d u L j=>?_) λ_ _ z=>z.mono l⟩;cases w with
   |tup U=>
    dsimp only at x
    by_cases c:o=some (-1)
    ·rw[ai c]at x
     obtain⟨a,D,rfl,t,r⟩:=q.mono L;refine⟨c,a,D,rfl,t,λp g=>?_⟩
     ·obtain⟨J,a2,i⟩:=Qy j g (zC.rev r)
      exact x _ _ _ ((l.trans L).trans J) a2 i
    ·rw[aj c]at x;exact x.elim
   |_=>exact x.elim
section
variable {a b:Expr}{ma mb:Ev}
def Od (g:zy X xr a ma)(D:zy X xr b mb)(f:ja b [] X:=by rfl)
  (e:attributeBase a "count" X.env (eval a X.env)=eval a X.env:=by rfl)
  (c:((backTo o8 (starEach [b] X.env)).all (λx=>!x.1)&&(backToKw o8 (keywordEach [] X.env)).all (λx=>x.1.isSome)
   && decide ([b].length+([]:b8).length+(if ([]:b8).isEmpty then 0 else 1)<30))=true:=by rfl)(h:(oR.endLine==o8.line)=true:=by rfl):
  zy X xr (.Call (.Attribute a "count" oR) [b] [] o8) (yu YW ma mb):=by
 simp only[zY,Mp]at*;exact X0 PySem.F.slot_list_count PySem.F.type_list_count D1 Cc (λr A H x y u v Q S d q p=>by
   unfold YW at p;cases u with
   |ref n=>
    dsimp only at p;cases e1:A[n]? with
    |none=>rw[e1]at p;exact p.elim|some o=>cases o with
     |lst t=>
      rw[e1]at p;dsimp only at p
      by_cases i:(yx v&&t.all yx)=true
      ·rw[ai i]at p
       rw[ak]at i;obtain⟨l,rfl,J⟩:=d;obtain⟨L,j,B,I,E⟩:=S.ob n _ e1;rw[J]at j;cases j;obtain⟨c1,C⟩:=UC q i.1 E i.2;refine⟨l,B,y,rfl,rfl,qX.of I,KZ q i.1,c1,?_⟩;rw[C]
       have:=p r H _ .refl S rfl
       rw[Xi]at this;simpa using this
      ·rw[aj i]at p;exact p.elim
     |_=>rw[e1]at p;exact p.elim
   |_=>exact p.elim) g D f e c h
end
def gC {m:Ev}{lo I:Option Expr}{P pu:Po}{J:Pos}(he:zy X xr e m)(N:Yf X xr lo P)(M:Yf X xr I pu):zy X xr (.Subscript e (.Slice lo I none J) o6) (Zh m P pu):=by
 simp only[zY,Mp,i5]at*;exact PE.imp (C4 iU he N M) λσ H Q ⟨φ,A,ρ,S,re,h⟩=>by
   refine tM.go S re (zV.mp h) λw A1 j H1 v h1 f Z D=>?_;refine⟨j,A1,ρ,Z,re.mono f,qy (zV.mp h1) (λl A2 h2 i H2 d Y=>?_) λ_ _ z=>z.mono f⟩;refine⟨i,A2,ρ,Y,(re.mono f).mono d,qy (zV.mp h2) (λu A3 b c C x g=>?_) λ_ _ z=>z.mono (f.trans d)⟩;have L:=(f.trans d).trans x;cases w with
   |tup ws=>
    obtain⟨a,vs,rfl,t,r⟩:=(D.mono d).mono x;have hlen:ws.length=vs.length:=r.length;refine .inl ⟨a,vs,rfl,t,λhw=>?_,λhw p y=>?_⟩
    ·refine b c C _ L g ⟨a,vs,rfl,t,?_⟩
     have:yG ws l u=ws:=by unfold yG;rw[hlen,hw.1,hw.2,Nat.sub_zero,List.drop_zero,<- hlen,take_length]
     rw[this];exact r
    ·have q:zC X.K c C (yG ws l u) (ZI vs l u):=by unfold yG ZI;rw[hlen];exact zC.take _ (zC.drop _ r)
     obtain⟨a1,a2,B⟩:=Qy g y q;exact b _ _ _ (L.trans a1) a2 B
   |ref n=>
    dsimp only at b;cases E:A3[n]? with
    |none=>rw[E]at b;exact b.elim|some o=>cases o with
     |lst ws=>
      rw[E]at b;dsimp only at b;obtain⟨a,vs,rfl,T,U,r⟩:=g.lst ((D.mono d).mono x) E;have hlen:ws.length=vs.length:=r.length;refine .inr ⟨a,vs,rfl,qX.of U,λp y=>?_⟩;have q:zC X.K c C (yG ws l u) (ZI vs l u):=by unfold yG ZI;rw[hlen];exact zC.take _ (zC.drop _ r)
      obtain⟨a1,a2,B⟩:=Q6 g y q;exact b _ _ _ (L.trans a1) a2 B
     |_=>rw[E]at b;exact b.elim
   |_=>exact b.elim
section
variable {a b:Expr}{ma mb:Ev}
def CV (H:zy X xr a ma)(h:zy X xr b mb):zy X xr (.BinOp a .BitAnd b o6) (zm iW ma mb):=by simp only[zY,Mp,i5]at*;exact ZG dJ QE (Qs λ_ _ _ _=>rfl) H h
def AE (c:zy X xr a ma)(H:zy X xr b mb):zy X xr (.BinOp a .RShift b o6) (zm iX ma mb):=by simp only[zY,Mp,i5]at*;exact ZG dI WC (Wq (λ_ _ h=>of_decide_eq_true h) λ_ _ _ _=>rfl) c H
end
section
def Bw {C:Expr}{m M:Ev}{P:Pos}(K:zy X xr e m)(g:zy X xr C M):zy X xr (.Subscript e (.Slice none none (some C) P) o6) (Ss m M):=by
 simp only[zY,Mp,i5]at*;exact PE.imp (Av K (Mi.Sn g)) λσ H Q ⟨Z,A,I,S,D,h⟩=>by
   refine tM.go S D (zV.mp h) λw Y b H1 v N l x q=>?_;refine⟨b,Y,I,x,D.mono l,qy (zV.mp N) (λo U B f y L d=>?_) λ_ _ z=>z.mono l⟩;cases w with
   |ref n=>
    dsimp only at B;cases E:U[n]? with
    |none=>rw[E]at B;exact B.elim|some ob=>cases ob with
     |lst ws=>
      rw[E]at B;dsimp only at B
      by_cases c:o=some (-1)
      ·rw[ai c]at B
       obtain⟨a,J,rfl,j,t,r⟩:=d.lst (q.mono L) E;refine⟨c,a,J,rfl,qX.of t,λp i=>?_⟩;obtain⟨T,a2,u⟩:=Q6 d i (zC.rev r);exact B _ _ _ ((l.trans L).trans T) a2 u
      ·rw[aj c]at B;exact B.elim
     |_=>rw[E]at B;exact B.elim
   |_=>exact B.elim
def Oo {M:Ev}(B:Nat)(A:bT)(d:X.calm=true)(S:gE X sc)(p:Qa X.N N sc B A=true)(C:Qw X)(L:kX X xr tg o7 mi)
  (n:∀s H fp,Qw (jA X N sc s H fp j7)->wR (jA X N sc s H fp j7) tg tw/\Zi (jA X N sc s H fp j7) ifs M/\Zb (jA X N sc s H fp j7) oS (⟨tg,o7,ifs,0⟩::gs) sc o6 0 em)
  (i:∀g',gs[0]? =some g'->g'.is_async=0:=by intro _ h;cases h<;>rfl)
  (c:∀x,foldedSetIterable o7 X.env x=pure x:=by intro _;rfl):ZR X xr (.ListComp oS (⟨tg,o7,ifs,0⟩::gs) sc o6) (qD B A mi tw M em):=by
 simp only[zY,Mp,i5]at*;intro P s E H Q I h;rw[eval_ListComp];refine Tu (use:=none) (g:=tG X.K tw) (ti:=tT X.K jR M) (tm:=tE X.K em) d S p i L (λs H fp t y=>n s H fp (DS S C t)) I (qD.read E H Q h) (λD C J v m u q T Y U r l j=>?_) c;exact⟨m,T,λZ a=>⟨.ref D,v,u.turned (t':=J.toks) (λb o f e=>(a.2 b f).trans e) Y U (.inr r) l j,rfl,q⟩⟩
variable {w:World}{K:Frag}{st:Stmt}{ps:bU}{k:Nat}{m:Ex}
def i6 (F:kS K x x st f fd)(n:nsIn K mainGlobals x=some (some (.ref f)))(t:tabIn K x=some (c,Pt))(S:k9 N ps (qc st))
  (h:∀(A:Around)(o:bZ)(s:Shared)(H:Hp)(E:XK),jb k (A.deeper (envOfC x (qc st) s.heap.objs.size f (.ref c)))->yy (yU kE P w K mg base N x (qc st) f (.ref c) A o s H E).nox jR (jO st) m):
  yi P w K mg base kE (k+1) f fd ps (Zw K ps.length (qo N.length m)):=by
 simp only[zY,Mp,i5]at*;exact Mi.L4 F n t S h
def i7 (F:kS K x x st f fd)(n:nsIn K mainGlobals x=some (some (.ref f)))(t:tabIn K x=some (c,Pt))(a:mg x=some (.ref f))(S:k9 N ps (qc st))
  (b:∀(kV d p:Value)(e:b9)(C ct:Value)(u:bQ),u.length=ps.length->bindArgs (fnOf x x (Zd st) (jO st) (qc st) .none kV d p e C ct) ⟨u,[]⟩=pure (ps.zip u))
  (h:∀(A:Around)(o:bZ)(s:Shared)(H:Hp)(E:XK),jb k (A.deeper (envOfC x (qc st) s.heap.objs.size f (.ref c)))->yy (yU kE P w K mg base N x (qc st) f (.ref c) A o s H E).nox jR (jO st) m):
  qK P w K mg base (k+1) x ps.length (qo N.length m):=by
 simp only[zY,Mp,i5]at*;exact⟨f,fd,ps,Mi.L4 F n t S h,a,F.kp,F.binds b⟩
end
def DV {m:Ev}(B:X.calm=true)(J:X.mg "sorted"=none)(j:zy X xr e m)(g:Gl X "sorted":=by rfl)(c:ja e [] X:=by rfl):zy X xr (.Call (.Name "sorted" p) [e] [] o6) (Sj m):=by
 simp only[zY,Mp]at*;exact PE.imp (QZ FY g J (by rfl) (jw j yg c) (by decide) (by decide) c (by rfl)) λZ H Q ⟨U,A,ρ,S,I,h⟩=>by
   refine tM.go S I (zV.mp h) λw T b H1 v C L d q=>?_;cases w with
   |ref n=>
    unfold XY at C;dsimp only at C;cases E:T[n]? with
    |none=>rw[E]at C;exact C.elim|some u=>cases u with
     |lst D=>
      rw[E]at C;dsimp only at C;obtain⟨P,Y,rfl,o,x,r⟩:=d.lst q E;cases i:QB D with
      |none=>rw[i]at C;exact C.elim|some K=>
       rw[i]at C;dsimp only at C;obtain⟨t,N⟩:=O9 i;subst t
       by_cases a:K.length<64/\WR K=true
       ·rw[ai a]at C
        refine⟨P,Y,K,b,rfl,qX.of x,r,N,a,λl f=>?_⟩;obtain⟨M,a2,y⟩:=Q6 d f r;exact C _ _ _ (L.trans M) a2 y
       ·rw[aj a]at C;exact C.elim
     |_=>rw[E]at C;exact C.elim
   |_=>exact C.elim
section
variable {y:Str}{k:Nat}{g:Fn}{hp0:Heap}
def KY {t:Lm}{j:Nat}{q:Str}{P:Pos}{RF:Nat->List W->Hx->R W}(C:Qw X)(hl:Y8 X.base X.prog X.w X.K X.mg j q t)(L:JS X.N X.env.scope t=true)
  (hR:∀base PG,(∀k,Jc X.prog X.w X.K X.mg base (j+1) (PG k) (gj [t] k))->qK X.prog X.w X.K X.mg base kk x 1 (QL PG RF))(hr:jb kk X.A)
  (hB:BMain X.mg X.base)(f:X.env.code=.ref c)(hC:CodeHd X.base c Pt)(d:X.env.qual ++ "<lambda>"=q)(u:defaultsOf t.params X.env=([],[]))(hg:Gl X x:=by rfl)(hdb:yA x:=by decide)
  (he:starEach [.Lambda t.params t.body t.scope P] X.env=(false,eval (.Lambda t.params t.body t.scope P) X.env)::starEach [] X.env:=by rfl)(Y:we o6 [] X:=by rfl):
  zy X jR (.Call (.Name x p) [.Lambda t.params t.body t.scope P] [] o6) (kL n q Pt t.idx (RF 0)):=by
 simp only[zY,Mp,i5]at*;intro o5 s σ H Q I ⟨φ,A,ρ,S,re,h⟩;unfold kL at h;cases E:A[n]? with
 |none=>rw[E]at h;exact h.elim|some o=>cases o with
  |tab q' P'=>
   rw[E]at h;dsimp only at h
   by_cases hc:q'=q/\P'=Pt
   ·rw[ai hc]at h
    cases ec:gR t.idx ρ with
    |none=>rw[ec]at h;exact h.elim|some ws=>
     rw[ec]at h;dsimp only at h;obtain⟨fa,fd,ps,F,hm,hk,hb⟩:=hR _ _ (OF (q:=q) I C hl (Wg L));refine wpAny_Call_Name_kw (YR I hg hm ?_ hdb);have hS:SA X jR [.Lambda t.params t.body t.scope P] (zj (wO n q Pt 0 (wB X.env q [t] 0)) zw):=Mi.Xr (Mi.NJ (ls:=[t]) rfl L hB f hC d u) Mi.TX;refine callWith_K (h₀:=X.base) I.ok.mod.kin hk (zR (hS o6 o5 s σ H (λvs H1=>∃b,Le X.K φ H b H1/\zL X.K b A H1/\zC X.K b H1 [.clo 0 ws (j8 X.env q [t] σ 0)] vs) I ⟨φ,A,ρ,S,re,?_⟩) λus s1 ⟨vs,H1,B,r1,b,l,S1,D⟩=>⟨B.kIn,?_⟩) he Y
     ·have em:zj (wO n q Pt 0 (wB X.env q [t] 0)) zw ρ A=.ok [.clo 0 [] (wB X.env q [t] 0)] A:=by
       unfold zj wO;rw[E];dsimp only;rw[ai hc]
       rfl
      rw[em];intro b H1 vs l S1 q1;refine⟨b,l,S1,?_⟩;obtain⟨v,r',rfl,hv,U⟩:=q1;obtain rfl:r'=[]:=U;obtain⟨a,ob,u0,c0,oc,uc,vs0,rfl,g1,g2,⟨t',et',gp⟩,_⟩:=hv;cases et';obtain⟨M,cv,D⟩:=UM (re.mono l) ec;exact .one ⟨a,ob,u0,c0,oc,uc,M,rfl,g1,g2,⟨t,rfl,gp,cv⟩,D⟩
     ·have e0:=(K2 B C).1
      obtain⟨fa',fd',T,F',i,hk',hb'⟩:=hR _ _ (OF (q:=q) B C hl (Wg L));rw[hm]at i;cases i;have g:Zw X.K 1 (QL (j8 X.env q [t] σ) RF) vs H1 Q E0:=by
       refine⟨by rw[<- D.length];rfl,b,A,[.clo 0 ws (j8 X.env q [t] σ 0)],S1,D,?_⟩
       unfold QL;dsimp only;rw[ai rfl];exact qy h (λ_ _ z=>z.mono l) λy A2 z J H2 l2 S2=>((z.mono l) J H2 l2 S2).elim
      have Z:=F'.len _ _ _ _ g;have hu:us.length=T.length:=by rw[<- r1.length];exact Z
      refine wpAny_call (codeAny_mono (F'.run X.A X.stack s1 H1 ⟨[]++us,[]⟩ us vs Q E0 hr e0 ?_ r1 g) λr s2 d=>?_)
      ·have:=hb' s1 us B.kIn (by rw[a5];exact hu)
       rw[a5]at this;exact this
      ·cases r with
       |error e=>exact False.elim d|ok fl=>
        cases fl with|ret u1=>exact B.after d|next=>exact False.elim d|brk=>exact False.elim d|cont=>exact False.elim d
   ·rw[aj hc]at h;exact h.elim
  |_=>rw[E]at h;exact h.elim
def OG (xo:wy X hp0 xr)(L:gM X.prog X.w X.K X.mg X.base k PK g)(hr:jb k X.A)(ha:gn X xr [e] mr)(hl:Qe mr 1)(hi:X.N[i]? =some y:=by rfl)(P:WW X.env.scope y:=by first|exact Or.inl rfl|exact Or.inr (Or.inl rfl)|exact Or.inr (Or.inr rfl))
  (hdb:yA y:=by decide)(hcd:(y==("__classdict__":Str))=false:=by decide)(he:ja e [] X:=by rfl)(U:we o6 [] X:=by rfl):
  zy X xr (.Call (.Name y p) [e] [] o6) (Qt i PK g mr):=by
 simp only[zY,Mp,i5]at*;intro o5 s σ H Q I ⟨φ,A,ρ,S,re,h⟩;unfold Qt at h;cases E:ρ[i]? with
 |none=>rw[E]at h;exact h.elim|some ow=>cases ow with
  |none=>rw[E]at h;exact h.elim|some w0=>cases w0 with
   |clo k0 D P0=>
    rw[E]at h;dsimp only at h
    by_cases hP:P0=PK
    ·rw[ai hP]at h
     subst hP;obtain⟨v,M,a,ob,u,c,oc,uc,d,rfl,h1,h2,Y,J⟩:=re.get i _ E;obtain⟨⟨fd0,hfd⟩,fd,ps,F1,n⟩:=L a ob u c oc uc d Y;have ho:s.heap.get? a=some ob:=(show qV X.prog X.w H s.heap a (.frz ob u) from I.hok a _ h1).1
     refine wpAny_Call_Name_kw (zR (ML hi P hdb hcd o5 s σ H (λv' H'=>v'=.ref a/\H'=H) I ⟨_,M,rfl,rfl⟩) λu0 s0 ⟨v0,H0,I0,r0,e0,e1⟩=>?_);subst e0;subst e1;obtain rfl:u0=Value.ref a:=r0;have f:∀{s:Shared}{H:Hp},Inv X o5 σ H s->H a=some (.frz ob u)->Frag.In [(a,ob)] s.heap:=λ {s H} I h1 b o e=>by
      rw[bC]at e
      by_cases n:b=a
      ·subst n
       simp at e;subst e;exact(show qV X.prog X.w H s.heap b (.frz ob u) from I.hok b _ h1).1
      ·have:(b==a)=false:=by simpa using n
       rw[this]at e;cases e
     have Z:keepIn [(a,ob)] (.ref a)=true:=by
      unfold keepIn;obtain⟨o1,o2,o3,o4⟩:=ob;cases (show o3=_ from hfd)
      simp[bC]
     have h':=zV.mp h;refine callWith_K (K:=[(a,ob)]) (h₀:=s0.heap) (f I0 h1) Z (zR (ha o6 o5 s0 σ H0 (λvs H1=>SV X.K a ob u c oc uc d g vs H1 Q (RA X.K xr)) I0 ⟨φ,A,ρ,S,re,?_⟩) λus s1 ⟨vs,H1,x,r,q⟩=>?_) he U
     ·cases t:mr ρ A with
      |ok ws A1=>
       rw[t]at h';intro C H1 vs l S1 q1;have P:vs.length=1:=by rw[<- q1.length];exact hl ρ A ws A1 t
       refine⟨P,l.fz _ _ _ h1,l.fz _ _ _ h2,C,A1,ws++D,S1,q1.append (zC.mono J l),qy h' (λ_ _ z=>z.mono l) λy A2 z B H2 l2 S2 Ca hC=>?_⟩;exact⟨y,Ca,rfl,hC,z B H2 (l.trans l2) S2⟩
      |exc y A1=>rw[t]at h';exact h'|bad=>rw[t]at h';exact h'
     ·have T:us.length=1:=by rw[<- r.length];cases q with|mk e=>exact e
      refine⟨f x (by cases q with|mk _ z=>exact z),?_⟩
      have hln:=F1.len _ _ _ _ q;refine wpAny_call (codeAny_mono (F1.run X.A X.stack s1 H1 ⟨[]++us,[]⟩ us vs Q (RA X.K xr) hr x.env0 (n s1 us T) r q) λr s2 j=>?_);cases r with
      |error e=>exact xo.passes o5 σ H1 s1 e s2 x j|ok fl=>
       cases fl with|ret u1=>exact x.after j|next=>exact False.elim j|brk=>exact False.elim j|cont=>exact False.elim j
    ·rw[aj hP]at h;exact h.elim
   |_=>rw[E]at h;exact h.elim
end
section
variable {t0 t1:Lm}{j i0:Nat}{q y0 y1:Str}{e1 e2:Expr}{g:W->List W->List W->Hx->R W}{fN:(Obj->Addr->Obj->List V->Prop)->Fn}
def DL {D:Hx}{w0:W}{U f:List W}(C:Qw X)(hl0:Ww X.prog X.w X.K X.mg j q y0 t0)(hl1:Ww X.prog X.w X.K X.mg j q y1 t1)(L0:JS X.N X.env.scope t0=true)(L1:JS X.N X.env.scope t1=true)(hne:t1.idx.length+1≠t0.idx.length)(h1:zy X jR e1 (zU i0))(h2:zy X jR e2 (zU i))
  (hN:∀base,gk X.base base->∀PK,(∀b,gk base b->gM X.prog X.w X.K X.mg b (j+1) PK (Ya t0.idx.length t0.m t1.m))->qK X.prog X.w X.K X.mg base kk x 2 (fN PK))(hG:∀PK w us vs A,SU fN g PK w us vs A)(hr:jb kk X.A)
  (hg:Gl X x:=by rfl)(hdb:yA x:=by decide)
  (hs1:ja e2 [] X:=by rfl)
  (he:ja e1 [e2] X:=by rfl)(hpl:we o6 [e2] X:=by rfl):
  zy X jR (.Call (.Name x p) [e1,e2] [] o6) (XT D w0 U f (wB X.env q [t0] 0) (wB X.env q [t1] 0) i i0 t0.idx t1.idx g):=by
 simp only[zY,Mp,i5]at*;intro o5 s σ H Q I ⟨φ,B,ρ,S,re,h⟩;unfold XT at h
 split at h
 case isFalse=>exact h.elim
 rename_i hc
 obtain⟨rfl,r0,r1,c0,c1⟩:=hc;have lok:∀{H' s'}(I':Inv X o5 σ H' s')(b:Heap),gk (w8 X.base s'.heap X.env.cells) b->gM X.prog X.w X.K X.mg b (j+1) (PU (j8 X.env q [t0] σ 0) (j8 X.env q [t1] σ 0)) (Ya t0.idx.length t0.m t1.m):=λ {H' s'} I' b sb=>
  .or (Nn hl0 λvs M=>(US (base:=w8 X.base s'.heap X.env.cells) I' (λy cc v e ⟨o,ho,hd⟩=>⟨o,UH e ho,hd⟩) (Wg L0) M).sub sb)
   (Nn hl1 λvs M=>(US (base:=w8 X.base s'.heap X.env.cells) I' (λy cc v e ⟨o,ho,hd⟩=>⟨o,UH e ho,hd⟩) (Wg L1) M).sub sb)
   (λ_ _ _ _ z=>Mo z) λ_ _ _ _ z=>by rw[Mo z];exact hne
 obtain⟨fa,fd,ps,F,hm,hk,hb⟩:=hN _ (K2 I C).2 _ (lok I);refine wpAny_Call_Name_kw (YR I hg hm ?_ hdb);have hS:SA X jR [e1,e2] (zj (zU i0) (zj (zU i) zw)):=Mi.Xr h1 (Mi.Xr h2 Mi.TX hs1) he;have eS:zj (zU i0) (zj (zU i) zw) ρ (D++[.lst [.clo 0 [] (wB X.env q [t0] 0),.clo 0 [] (wB X.env q [t1] 0)]])=.ok [w0,.ref D.length] (D++[.lst [.clo 0 [] (wB X.env q [t0] 0),.clo 0 [] (wB X.env q [t1] 0)]]):=zr (zi r0) (zr (zi r1) zF);have en:∀ws,(D++[O.lst ws])[D.length]? =some (.lst ws):=λ_=>List.getElem?_concat_length;refine callWith_K (h₀:=X.base) I.ok.mod.kin hk (zR (hS o6 o5 s σ H (λvs H1=>∃d,Le X.K φ H d H1/\zL X.K d (D++[.lst [.clo 0 U (PU (j8 X.env q [t0] σ 0) (j8 X.env q [t1] σ 0)),.clo 0 (.non::f) (PU (j8 X.env q [t0] σ 0) (j8 X.env q [t1] σ 0))]]) H1/\zC X.K d H1 [w0,.ref D.length] vs) I ⟨φ,_,ρ,S,re,?_⟩) λus s1 ⟨vs,H1,I1,rr,d,l1,S1,rv⟩=>⟨I1.kIn,?_⟩) he hpl
 ·rw[eS]
  intro d H1 vs l1 S1 q1;have S2:=S1.tell (ws:=[.clo 0 U (PU (j8 X.env q [t0] σ 0) (j8 X.env q [t1] σ 0)),.clo 0 (.non::f) (PU (j8 X.env q [t0] σ 0) (j8 X.env q [t1] σ 0))]) (en _) λvs ⟨v,r',ev,hv,v2,r2,ev2,P,T⟩=>by subst ev;subst ev2;obtain rfl:r2=[]:=T;obtain⟨a,ob,u,c,oc,uc,ws,rfl,g1,g2,gp,rg⟩:=told (re.mono l1) c0 hv;obtain⟨a',L,u',c',J,E,ws',rfl,Z,Y,gp',rg'⟩:=told (re.mono l1) c1 P;exact .cons ⟨a,ob,u,c,oc,uc,ws,rfl,g1,g2,.inl gp,rg⟩ (.one ⟨a',L,u',c',J,E,_,rfl,Z,Y,.inr ⟨_,ws',rfl,gp'⟩,.cons rfl rg'⟩)
  rw[set_append_right _ _ (aq _),sub_self]at S2;exact⟨d,l1,S2,q1⟩
 ·have e0:=(K2 I1 C).1
  obtain⟨fa',fd',ps',F',hm',hk',hb'⟩:=hN _ (K2 I1 C).2 _ (lok I1);rw[hm]at hm';cases hm';have hsp:Zw X.K 2 (fN (PU (j8 X.env q [t0] σ 0) (j8 X.env q [t1] σ 0))) vs H1 Q E0:=by
   refine⟨by rw[<- rv.length];rfl,d,_,[w0,.ref D.length],S1,rv,?_⟩
   rcases hG (PU (j8 X.env q [t0] σ 0) (j8 X.env q [t1] σ 0)) w0 U f D with e|⟨B,n',l,l2,e1,e2,a1,nr2,b1,b2⟩
   ·rw[e]at h;exact h.elim
   ·rw[e2]at h
    rw[e1];intro φ2 H2 y l2' S3 r3;have la:n'<D.length:=(cm.mp a1).1;obtain⟨S4,l4⟩:=S1.forget S3 l2' (n:=n') (us:=l) (ws2:=l2) ((ah la).trans a1) (λi hi hn=>b2 i (by simpa using hi) hn) b1 nr2
    have eL:=av (a:=O.lst l2) (show n'≠D.length by lia) |>.trans (en [.clo 0 U (PU (j8 X.env q [t0] σ 0) (j8 X.env q [t1] σ 0)),.clo 0 (.non::f) (PU (j8 X.env q [t0] σ 0) (j8 X.env q [t1] σ 0))])
    have S5:=S4.tell (ws:=[.clo 0 [] PJ,.clo 0 [] PJ]) eL λvs ⟨v,r',ev,hv,v2,r2,ev2,P,T⟩=>by subst ev;subst ev2;obtain rfl:r2=[]:=T;obtain⟨a,ob,u0,c0,oc,uc,f,rfl,g1,g2,_,_⟩:=hv;obtain⟨a',L,u0',c0',J,E,vs0',rfl,Z,Y,_,_⟩:=P;exact .cons ⟨a,ob,u0,c0,oc,uc,[],rfl,g1,g2,trivial,.nil⟩ (.one ⟨a',L,u0',c0',J,E,[],rfl,Z,Y,trivial,.nil⟩)
    rw[List.set_comm _ _ (by lia),set_append_right _ _ (aq _),sub_self]at S5
    exact h _ H2 y (l1.trans l4) S5 (RV.nrm (λ_ _ t=>t) (λ_ _ _ t=>t) rfl r3)
  have hln:=F'.len _ _ _ _ hsp;have hu:us.length=ps'.length:=by rw[<- rr.length];exact hln
  refine wpAny_call (codeAny_mono (F'.run X.A X.stack s1 H1 ⟨[]++us,[]⟩ us vs Q E0 hr e0 ?_ rr hsp) λr s2 hq=>?_)
  ·have:=hb' s1 us I1.kIn (by rw[a5];exact hu)
   rw[a5]at this;exact this
  ·cases r with
   |error e=>exact False.elim hq|ok fl=>
    cases fl with|ret u1=>exact I1.after hq|next=>exact False.elim hq|brk=>exact False.elim hq|cont=>exact False.elim hq
set_option tactic.hygienic true in
def E9 {s1 s2 s3:Stmt}{T:cb}{M:Ex}{p a:Obj->Addr->Obj->List V->Prop}{Z Y:bT}
  (h1:yn X xr s1 (qA i (qO (zj (wO n q Pt 0 p) zw))))(h2:yn X xr s2 (wg (yu kg (zU i) (wO n q Pt 0 a))))
  (u:∀A w us vs,yn X xr s3 (jk (ym (XT A w us vs p a i i0 Z Y g)) (zG LD zS) zS))(t:yy X xr T M):yy X xr (s1::s2::s3::T) (zG (YX n q Pt i i0 Z Y g) M):=by
 simp only[zY,Mp,i5]at*;intro U s σ H D I ⟨φ,A,N,S,re,h⟩;have L:=zV.mp h;unfold YX at L;cases E:A[n]? with
 |none=>rw[E]at L;exact L.elim|some o=>cases o with
  |tab Q j=>
   rw[E]at L;dsimp only at L
   by_cases c:Q=q/\j=Pt/\i < N.length
   ·rw[ai c]at L
    split at L
    case h_2=>exact L.elim
    rename_i w us vs l C c1
    have hn:n<A.length:=(cm.mp E).1;have x:∀(B:Hx) P,B[n]? =some (.tab Q j)->wO n q Pt 0 P (N.set i (some (.ref A.length))) B=.ok (.clo 0 [] P) B:=λB P e=>by unfold wO;rw[e];exact ai ⟨c.1,c.2.1⟩
    have d:wO n q Pt 0 p N A=.ok (.clo 0 [] p) A:=by unfold wO;rw[E];exact ai ⟨c.1,c.2.1⟩
    have r:(N.set i (some (W.ref A.length)))[i]? =some (some (.ref A.length)):=ar c.2.2;have f:(A++[O.lst [.clo 0 [] p]])[A.length]? =some (.lst [.clo 0 [] p]):=List.getElem?_concat_length;have K:qA i (qO (zj (wO n q Pt 0 p) zw)) N A=.ok (.nx (N.set i (some (.ref A.length)))) (A++[.lst [.clo 0 [] p]]):=qj (jB (zr d zF));have J:wg (yu kg (zU i) (wO n q Pt 0 a)) (N.set i (some (.ref A.length))) (A++[.lst [.clo 0 [] p]])=.ok (.nx (N.set i (some (.ref A.length)))) (A++[.lst [.clo 0 [] p,.clo 0 [] a]]):=by
     refine kj (w:=.non) ?_;unfold yu;rw[zi r,zJ]
     have:Qn (.ref A.length) (A++[O.lst [.clo 0 [] p]])=true:=by unfold Qn;dsimp only;rw[f]
     rw[ai this,x _ _ ((ah hn).trans E),zJ];unfold kg;dsimp only;rw[f];dsimp only;rw[ai (show List.length [W.clo 0 [] p]<zX from (show 1<zX by decide)),set_append_right _ _ (aq _),sub_self]
     rfl
    have y:XT A w us vs p a i i0 Z Y g (N.set i (some (.ref A.length))) (A++[.lst [.clo 0 [] p,.clo 0 [] a]])=g w us vs A:=ai ⟨rfl,l,r,C,c1⟩;refine(Mi.Xn h1 (Mi.Xn h2 (Mi.Xn (u A w us vs) t))) U s σ H D I ⟨φ,A,N,S,re,?_⟩;unfold zG;rw[K,zJ];dsimp only;rw[J,zJ];dsimp only;unfold jk ym;rw[y];refine zV.mpr (zV.mpr (zV.mpr (qy (zV.mp L) (λv A1 z=>?_) λ_ _ z=>z)));cases v with
    |bl b=>
     cases b with|true=>exact z|false=>exact z.elim
    |_=>exact z.elim
   ·rw[aj c]at L;exact L.elim
  |_=>rw[E]at L;exact L.elim
end
def qK.up {w:World}{K:Frag}{j k:Nat}{f:Fn}(F:qK P w K mg base j x n f)(h:j<=k:=by decide):qK P w K mg base k x n f:=F.mono h
def jn.up {w:World}{K:Frag}{j k:Nat}{f:Fn}(F:jn P w K mg base j x n f)(h:j<=k:=by decide):jn P w K mg base k x n f:=F.mono h
section
variable {C:List Value->Prop}
theorem Vx (h:∀a,C [a]):∀us:bQ,us.length=1->C us
 |[a],_=>h a
theorem Ks (h:∀a b,C [a,b]):∀us:bQ,us.length=2->C us
 |[a,b],_=>h a b
theorem RM (h:∀a b c,C [a,b,c]):∀us:bQ,us.length=3->C us
 |[a,b,c],_=>h a b c
end
def wu {l:bU}(h:decide l.Nodup=true):l.Nodup:=of_decide_eq_true h
noncomputable def Ik (N P:bU)(S:Scope):Bool:=decide (S.kind=.function)&&(!S.isCoroutine&&(!S.isGenerator&&(decide N.Nodup&&(decide (N.take P.length=P)&&(P.all (λx=>decide (S.names.lookup x=some .local) || decide (S.names.lookup x=some .cell))&&S.names.all λy=>!decide (y.2=.free))))))
def Yb {P:bU}(h:Ik N P sc=true):k9 N P sc:=by unfold Ik at h;simp only[ak,ao,not_eq_true',aY,a3,decide_eq_false_iff_not]at h;obtain⟨g,f,e,d,c,b,a⟩:=h;exact⟨g,f,e,d,c,b,λy H=>a y H⟩
section
def JJ {M:Ev}(l:Nat)(C:bT)(d:kX X xr tg o7 mi)
  (n:∀s H fp,wR (jA X N sc s H fp j7) tg tw/\Zi (jA X N sc s H fp j7) ifs M/\Zb (jA X N sc s H fp j7) oS (⟨tg,o7,ifs,0⟩::gs) sc o6 0 em)
  (c:X.calm=true:=by rfl)(S:gE X sc:=by exact cps (by kernel_rfl))(p:Qa X.N N sc l C=true:=by kernel_rfl)
  (b:∀g',gs[0]? =some g'->g'.is_async=0:=by intro _ h;cases h<;>rfl)
  (a:∀x,foldedSetIterable o7 X.env x=pure x:=by intro _;rfl):ZR X xr (.ListComp oS (⟨tg,o7,ifs,0⟩::gs) sc o6) (qD l C mi tw M em):=Ct l C c S p d n b a
def wM {d:Nat}(a:zy X jR oS me)(h:∀e s,X.xe e s->False:=by exactλ_ _ z=>z)(H:gens[d+1]? =none:=by rfl):Zb X oS gens sc o6 d (qw me):=Am h a H
end
open PySem L2
abbrev zI:Ev:=zU 0
abbrev zD:Ev:=zU 1
abbrev qg:Ev:=zU 2
abbrev qb:Ev:=zU 3
abbrev ql:Ev:=zU 4
abbrev jX:Ev:=zU 5
abbrev kU:Ev:=zU 6
abbrev wC:Ev:=zU 7
abbrev Jk:Ev:=zU 8
abbrev Ku:Ev:=zU 9
abbrev LJ:Ev:=zU 10
abbrev qB:Ev:=zT (.int 0)
abbrev jj:Ev:=zT (.int 1)
abbrev QR:Ev:=zT (.int 2)
abbrev W4:Ev:=zT (.int 4)
abbrev Ic:Ev:=zT (.int 5)
abbrev i8:Ev:=zT (.int 7)
abbrev i9:Ev:=zT (.int 8)
abbrev Jn:Ev:=zT (.int 9)
abbrev JY:Ev:=zT (.int 10)
abbrev jl:Ev:=zT (.bl true)
abbrev RD:Ev:=zT (.bl false)
abbrev Yd:Ev:=zT .non
abbrev kF:Ex:=zG (gm RD) zS
noncomputable def yI (S:Scope):bU:=(S.names.filter λp=>p.2==.local || p.2==.cell).map (·.1)
noncomputable def RN (N:bU)(x:Str)(c:bT):bU:=x::c.map λi=>N.getD i Str.empty
noncomputable def Iu (N:bU)(S:Scope)(i:Nat)(x:Str):Bool:=N[i]?==some x&&((S.names.lookup x==some .local || (S.names.lookup x==some .cell || S.names.lookup x==some .free))&&(!(x==("__debug__":Str))&&!(x==("__classdict__":Str))))
noncomputable def Iv (N:bU)(S:Scope)(fn:Str->Bool)(i:Nat)(x:Str):Bool:=N[i]?==some x&&((S.names.lookup x==some .local || S.names.lookup x==some .cell)&&(fn x || S.names.lookup x==some .local))
def zc (i:Nat)(h:Iu X.N X.env.scope i x=true:=by kernel_rfl):zy X xr (.Name x o6) (zU i):=by unfold Iu at h;simp only[ak,a3,aL,not_eq_true']at h;exact Aj i h.1 h.2.1 h.2.2.1 h.2.2.2
def zZ {p:Pos}{m:Ev}(i:Nat)(a:X.N.Nodup)(b:zy X xr e m)(h:Iv X.N X.env.scope X.fn i x=true:=by kernel_rfl)(H:swapsWith e (some (.Name x p)) o6.line X.env=pure false:=by rfl):yn X xr (.Assign [.Name x p] e o6) (qA i m):=by unfold Iv at h;simp only[ak,a3,aL]at h;exact Au i a b h.1 h.2.1 H h.2.2
section
def jL (C:bT)(e:kX X xr (.Name x p) o7 mi)(g:∀s H fp,zy (jA X (RN X.N x C) sc s H fp j7) jR oS me)
  (d:X.calm=true:=by rfl)(S:gE X sc:=by exact cps (by kernel_rfl))(a:Qa X.N (RN X.N x C) sc 1 C=true:=by kernel_rfl)(n:(RN X.N x C).Nodup:=by exact wu (by kernel_rfl))(b:Loc (relabel sc X.env) x:=by first|exact Or.inl rfl|exact Or.inr rfl)(f:(sc.names.lookup x==some .local || sc.names.lookup x==some .cell)=true:=by rfl)
  (c:∀y,foldedSetIterable o7 X.env y=pure y:=by intro _;rfl):ZR X xr (.ListComp oS [⟨.Name x p,o7,[],0⟩] sc o6) (qD 1 C mi (zQ 0) jl (qw me)):=
 JJ 1 C e (λs H fp=>⟨jh 0 n rfl b (.inl f),wY,wM (g s H fp)⟩) d S a (by intro _ h;cases h) c
end
def WQ.toD {D:Heap}{w:World}{K:Frag}{j:Nat}{q:Str}{t:Lm}(h:WQ P w K mg j q t):Y8 D P w K mg j q t:=⟨h.sc,h.bind,λb cl a c A o s H E _=>h.body b cl a c A o s H E⟩
end Mi
namespace G
open PySem L2 Mi
noncomputable def top (i:Nat):Stmt:=PySem.Challenge.pw_nearkinds_k31_how_often_and_worths.main.body.getD i (.Pass ⟨0,0,0,0⟩)
structure Bu (mg:bY):Prop where
 F7:mg "ValueError"=none
 Y9:mg "all"=none
 zef:mg "any"=none
 XM:mg "bool"=none
 Yq:mg "enumerate"=none
 Ws:mg "int"=none
 jy:mg "isinstance"=none
 qT:mg "len"=none
 Q8:mg "list"=none
 JN:mg "max"=none
 M3:mg "min"=none
 qY:mg "range"=none
 zdn:mg "set"=none
 BW:mg "sorted"=none
 Vc:mg "sum"=none
 jD:mg "tuple"=none
 Y7:mg "zip"=none
 HV:∃t,mg "MOST_PLACES"=some (.int 8 t)
noncomputable abbrev jJ:bU:=["NoTable","NotSteady","NoMix","NoWeights"]
noncomputable abbrev GZ:bU:=["NoTable","NotSteady","NoPlace","NoKind","NoMix","NoNumber","NoLot","NoKinds","NoPaper","NoParting","NoClosed","TooMany","NoText","NoLine","NoDeed","NoWeights","NotWhole","NoNumbers"]
def jo {K:Frag}(R:GZ.all (Ja K jJ)=true)(h:GZ.contains x=true:=by decide +kernel):Ja K jJ x=true:=cw.mp R x (List.contains_iff_mem.mp h)
def KW {l:List (Str×NameKind)}(h:(l.all λy=>!(y.2==.cell))=true):∀y∈l,y.2≠.cell:=λy H e=>by have q:=cw.mp h y H;rw[e]at q;cases q
def yE {m:Ev}(h:zy X xr e m):SE X xr e m:=by rw[XH]at h;exact h
abbrev Uz:Stmt:=top 71
def FI:k9 ["_law_found","_law_due"] ["_law_found","_law_due"] (qc Uz):=Yb (by kernel_rfl)
def Jt (Z:Fn):Ex:=zG (jk (L5 .tup .lst zD) (zG (jk (ZT (zm ju (Zo .tup zI) (Zo .tup zD)) (zm ju (Zo .lst zI) (Zo .lst zD))) kF zS) (zG (jk (zm ju (mQ qu (qa zI)) (mQ qu (qa zD))) kF zS) (zG (gm (mQ Kh (qD 2 [] (Zj zI zD) (jZ 0 1) jl (qw (zO Z (zj zI (zj zD zw))))))) zS))) zS) (zG (gm (kP (zm jQ zI zD) (zm jQ (Zo .bl zI) (Zo .bl zD)))) zS)
def GB {w:World}{K:Frag}{k:Nat}(T:Bu mg)(F:kS K "_law_same" "_law_same" Uz f fd)(a:mg "_law_same"=some (.ref f)){Z:Fn}(ZV:qK P w K mg base k "_law_same" 2 Z):qK P w K mg base (k+1) "_law_same" 2 (qo 2 (Jt Z)):=
 Rv F a FI (λ_ _ _ _ _ _=>Ks λ_ _=>rfl) λc A o s H E h=>zq (ji (kh (Ax .tup .lst T.jy T.jD T.Q8 (by rfl) (by rfl) (zc 1))) (zq (ji (Q0 (Wl (jK (kN h) (gJ .tup T.jy T.jD (by rfl) (zc 0)) (gJ .tup T.jy T.jD (by rfl) (zc 1))) (K6 (jK (kN h) (gJ .lst T.jy T.Q8 (by rfl) (zc 0)) (gJ .lst T.jy T.Q8 (by rfl) (zc 1)))))) (zq (qd jH) zB) zB) (zq (ji (jK (kN h) (qU T.qT (qp (zc 0))) (qU T.qT (qp (zc 1)))) (zq (qd jH) zB) zB) (zq (qd (YL rfl T.Y9 (yc (JJ (N:=["_law_one","_law_other"]) 2 [] (YO rfl T.Y7 (zc 0) (zc 1)) (λ_ _ _=>⟨kG 0 1 rfl (wu (by kernel_rfl)),wY,wM (zP ZV h (zh (zc 0) (zh (zc 1) zt)))⟩))))) zB))) zB) (zq (qd (ZE (w6 (kM h) (zc 0) (zc 1)) (Z3 (w6 (kM h) (gJ .bl T.jy T.XM (by rfl) (zc 0)) (gJ .bl T.jy T.XM (by rfl) (zc 1)))))) zB)
abbrev V6:Stmt:=top 74
def Qp:k9 ["_law_call","_law_error","e","_law_marks"] ["_law_call"] (qc V6):=Yb (by kernel_rfl)
def V2:Ex:=zG (qA 3 (qO (zj (ye (yY jJ "NoTable") zD) (zj (ye (yY jJ "NotSteady") zD) (zj (ye (yY jJ "NoPlace") zD) zw))))) (zG (qA 3 (zm qJ qb (qO (zj (ye (yY jJ "NoKind") zD) (zj (ye (yY jJ "NoMix") zD) (zj (ye (yY jJ "NoNumber") zD) zw)))))) (zG (qA 3 (zm qJ qb (qO (zj (ye (yY jJ "NoLot") zD) (zj (ye (yY jJ "NoKinds") zD) (zj (ye (yY jJ "NoPaper") zD) zw)))))) (zG (qA 3 (zm qJ qb (qO (zj (ye (yY jJ "NoParting") zD) (zj (ye (yY jJ "NoClosed") zD) (zj (ye (yY jJ "TooMany") zD) zw)))))) (zG (qA 3 (zm qJ qb (qO (zj (ye (yY jJ "NoText") zD) (zj (ye (yY jJ "NoLine") zD) (zj (ye (yY jJ "NoDeed") zD) zw)))))) (zG (qA 3 (zm qJ qb (qO (zj (ye (yY jJ "NoWeights") zD) (zj (ye (yY jJ "NotWhole") zD) (zj (ye (yY jJ "NoNumbers") zD) zw)))))) (zG (jk (ym (ye (RP jJ) zD)) (zG (gm Yd) zS) zS) (zG (gm (jP (qD 1 [3] (jU (zT (.int 18))) (zQ 0) (zm zH zD zI) (qw zI)))) zS)))))))
def KI (PG:Zl)(l:Nat->Fn):Ex:=zG (qA 1 Yd) (zG (WJ 0 1 2 jJ PG l) V2)
def Hv {w:World}{K:Frag}{k:Nat}(T:Bu mg)(C:gy K jJ "NearError")(R:GZ.all (Ja K jJ)=true)(F:kS K "_law_refused" "_law_refused" V6 f fd)(a:mg "_law_refused"=some (.ref f)){PG:Zl}{l:Nat->Fn}(h:kk<=k)(L:∀k,Jc P w K mg base kk (PG k) (l k)):qK P w K mg base (k+1) "_law_refused" 1 (qo 4 (KI PG l)):=
 Rv F a Qp (λ_ _ _ _ _ _=>Vx λ_=>rfl) λc A o s H E r=>zq (zZ 1 Qp.nd Qr) (zq (i4 L (r.mono h) rfl rfl C.top_at C.top_exc (by decide +kernel) C.under Qp.nd rfl rfl rfl rfl rfl rfl rfl) (zq (zZ 3 Qp.nd (qF (zh (kH (C.isx (jo R)) (kJ (jo R)) T.jy (zc 1)) (zh (kH (C.isx (jo R)) (kJ (jo R)) T.jy (zc 1)) (zh (kH (C.isx (jo R)) (kJ (jo R)) T.jy (zc 1)) zt))) (zu (zu (zu zK))))) (zq (zZ 3 Qp.nd (qI (zc 3) (qF (zh (kH (C.isx (jo R)) (kJ (jo R)) T.jy (zc 1)) (zh (kH (C.isx (jo R)) (kJ (jo R)) T.jy (zc 1)) (zh (kH (C.isx (jo R)) (kJ (jo R)) T.jy (zc 1)) zt))) (zu (zu (zu zK)))))) (zq (zZ 3 Qp.nd (qI (zc 3) (qF (zh (kH (C.isx (jo R)) (kJ (jo R)) T.jy (zc 1)) (zh (kH (C.isx (jo R)) (kJ (jo R)) T.jy (zc 1)) (zh (kH (C.isx (jo R)) (kJ (jo R)) T.jy (zc 1)) zt))) (zu (zu (zu zK)))))) (zq (zZ 3 Qp.nd (qI (zc 3) (qF (zh (kH (C.isx (jo R)) (kJ (jo R)) T.jy (zc 1)) (zh (kH (C.isx (jo R)) (kJ (jo R)) T.jy (zc 1)) (zh (kH (C.isx (jo R)) (kJ (jo R)) T.jy (zc 1)) zt))) (zu (zu (zu zK)))))) (zq (zZ 3 Qp.nd (qI (zc 3) (qF (zh (kH (C.isx (jo R)) (kJ (jo R)) T.jy (zc 1)) (zh (kH (C.isx (jo R)) (kJ (jo R)) T.jy (zc 1)) (zh (kH (C.isx (jo R)) (kJ (jo R)) T.jy (zc 1)) zt))) (zu (zu (zu zK)))))) (zq (zZ 3 Qp.nd (qI (zc 3) (qF (zh (kH (C.isx (jo R)) (kJ (jo R)) T.jy (zc 1)) (zh (kH (C.isx (jo R)) (kJ (jo R)) T.jy (zc 1)) (zh (kH (C.isx (jo R)) (kJ (jo R)) T.jy (zc 1)) zt))) (zu (zu (zu zK)))))) (zq (ji (wG (kh (C3 C.isv T.jy T.F7 (by rfl) (zc 1)))) (zq (qd Qr) zB) zB) (zq (qd (gD (JJ (N:=["_law_k","_law_marks"]) 1 [3] (jg rfl T.qY zx) (λ_ _ _=>⟨jh 0 (wu (by kernel_rfl)),Nl (kh (qe (zc 1) (zc 0))),wM (zc 0)⟩)))) zB)))))))))
abbrev KC:Stmt:=top 77
def RS:k9 ["_law_state_here","_law_calls","_law_bad","_law_broken_here"] ["_law_state_here","_law_calls"] (qc KC):=Yb (by kernel_rfl)
noncomputable abbrev yZ:Str:=(("_law_no_table_right":Str)++(".<locals>.":Str))++("<lambda>":Str)
noncomputable abbrev yt:Str:=(("law":Str)++(".<locals>.":Str))++("<lambda>":Str)
def K9 (q:Fn)(Q:Fn)(P:Obj->Addr->Obj->List V->Prop)(gp:Fn):Lm:=JV (JU (LZ (WK (Vi ((jO KC).getD 1 ZF)))) 0) ["_law_call","_law_bad"] [0,1] (Qt 0 P gp (zj zD zw))
def Ba {w:World}{K:Frag}{k:Nat}(T:Bu mg)(q:∀base,jn P w K mg base k "how_often" 2 qv)(Q:∀base,jn P w K mg base k "worth_by" 3 qt){D:Heap}{gp:Fn}(L:∀base,gk D base->gM P w K mg base k PK gp):Y8 D P w K mg k yZ (K9 qv qt PK gp):=
 ⟨⟨rfl,rfl,rfl,KW (by kernel_rfl)⟩,λ_ _ _ _=>rfl,λbase cl a c A o s H E b h x=>yE (OG x (L base b) h (zh (zc 1) zt) (zu zK))⟩
def Wa (q:Fn)(Q:Fn)(P:Obj->Addr->Obj->List V->Prop)(gp:Fn):Lm:=JV (JU (LZ (WK (Ro ((jO KC).getD 2 ZF)))) 0) ["_law_call","_law_broken_here"] [0,1] (Qt 0 P gp (zj zD zw))
def Bi {w:World}{K:Frag}{k:Nat}(T:Bu mg)(q:∀base,jn P w K mg base k "how_often" 2 qv)(Q:∀base,jn P w K mg base k "worth_by" 3 qt){D:Heap}{gp:Fn}(L:∀base,gk D base->gM P w K mg base k PK gp):Y8 D P w K mg k yZ (Wa qv qt PK gp):=
 ⟨⟨rfl,rfl,rfl,KW (by kernel_rfl)⟩,λ_ _ _ _=>rfl,λbase cl a c A o s H E b h x=>yE (OG x (L base b) h (zh (zc 1) zt) (zu zK))⟩
def VR (a:Fn)(g:Fn)(q:Fn)(Q:Fn)(p:Obj->Addr->Obj->List V->Prop)(gp:Fn)(RG:Lm->Nat->List W->Hx->R W)(P:Addr):Ex:=zG (Ke (qP (zj (zO a (zj zI zw)) (zj (zO g (zj zI zw)) zw))) (jZ 2 3)) (zG (jk (zm ju (jP (qD 1 [2] (q9 zD) (zQ 0) jl (qw (kL 2 yZ P (K9 q Q p gp).idx (RG (K9 q Q p gp) 0))))) (zm qE (qO (zj (qO (zj qB zw)) zw)) (mQ qu (qa zD)))) kF zS) (zG (gm (zm jQ (jP (qD 1 [3] (q9 zD) (zQ 0) jl (qw (kL 2 yZ P (Wa q Q p gp).idx (RG (Wa q Q p gp) 0))))) (zm qE (qO (zj (qO (zj jj zw)) zw)) (mQ qu (qa zD))))) zS))
def Iy {w:World}{K:Frag}{k:Nat}(T:Bu mg)(F:kS K "_law_no_table_right" "_law_no_table_right" KC f fd)(n:nsIn K mainGlobals "_law_no_table_right"=some (some (.ref f)))(i:tabIn K "_law_no_table_right"=some (c,Pt))(l:mg "_law_no_table_right"=some (.ref f))(B:BMain mg base)(C:CodeHd base c Pt){e:Fn}(Jo:qK P w K mg base k "_law_bad_table" 1 e){g:Fn}(Yl:qK P w K mg base k "_law_broken" 1 g){RG:Lm->Nat->List W->Hx->R W}{j:Nat}(a:kk<=k)(XL_how_often:∀base,jn P w K mg base j "how_often" 2 qv)(XL_worth_by:∀base,jn P w K mg base j "worth_by" 3 qt){gp:Fn}(L:∀b,gk base b->gM P w K mg b j PK gp)(d:∀t base PG,(∀k,Jc P w K mg base (j+1) (PG k) (gj [t] k))->qK P w K mg base kk "_law_refused" 1 (QL PG (RG t))):qK P w K mg base (k+1) "_law_no_table_right" 2 (qo 4 (VR e g qv qt PK gp RG Pt)):=
 i7 F n i l RS (λ_ _ _ _ _ _=>Ks λ_ _=>rfl) λA o s H E r=>zq (Wd (qG (zh (zP Jo r (zh (zc 0) zt)) (zh (zP Yl r (zh (zc 0) zt)) zt)) (zu (zu zK))) (kG 2 3 rfl RS.nd)) (zq (ji (jK (kN r) (gD (Oo (N:=["_law_call","_law_bad"]) 1 [2] rfl (cps (by kernel_rfl)) (by kernel_rfl) (Y2 λ_=>rfl) (j6 (zc 1)) (λ_ _ _ h=>⟨jh 0 (wu (by kernel_rfl)),wY,wM (KY (t:=K9 qv qt PK gp) h (Ba T XL_how_often XL_worth_by L) (by kernel_rfl) (d _) (r.mono a) B rfl C rfl rfl)⟩))) (jz (qF (zh (qF (zh zx zt) (zu zK)) zt) (zu zK)) (qU T.qT (qp (zc 1))))) (zq (qd jH) zB) zB) (zq (qd (w6 (kM r) (gD (Oo (N:=["_law_call","_law_broken_here"]) 1 [3] rfl (cps (by kernel_rfl)) (by kernel_rfl) (Y2 λ_=>rfl) (j6 (zc 1)) (λ_ _ _ h=>⟨jh 0 (wu (by kernel_rfl)),wY,wM (KY (t:=Wa qv qt PK gp) h (Bi T XL_how_often XL_worth_by L) (by kernel_rfl) (d _) (r.mono a) B rfl C rfl rfl)⟩))) (jz (qF (zh (qF (zh zx zt) (zu zK)) zt) (zu zK)) (qU T.qT (qp (zc 1)))))) zB))
abbrev QF:Stmt:=top 79
def w5:k9 ["_law_script","_law_k","_law_state_here","_law_table","_law_mix","_law_kind","_law_some","_law_weights","_law_due","_law_bent","_law_bad","_law_calls"] ["_law_script"] (qc QF):=Yb (by kernel_rfl)
abbrev js:Expr:=(JU (Ro (J1 ((jO QF).getD 0 ZF) 8)) 0)
def Q5 (q:Fn)(Q:Fn):Lm:=JV js ["_law_bent"] [9] (zO q (zj zI (zj zD zw)))
def kc {w:World}{K:Frag}{k:Nat}(T:Bu mg)(Q:∀base,jn P w K mg base k "how_often" 2 qv)(q:∀base,jn P w K mg base k "worth_by" 3 qt):Ww P w K mg k yt "_law_one" (Q5 qv qt):=
 ⟨OO (by kernel_rfl),λ_ _ _ _ _=>rfl,λbase cl a c A o s H E h x=>yE (ZD x (Q base) h (zh (zc 0) (zh (zc 1) zt)))⟩
abbrev ke:Expr:=(JU (Ro (J1 ((jO QF).getD 0 ZF) 9)) 0)
def JC (Q:Fn)(q:Fn):Lm:=JV ke ["_law_bent","_law_bad"] [9,10] (zO q (zj zI (zj zD (zj qg zw))))
def kl {w:World}{K:Frag}{k:Nat}(T:Bu mg)(q:∀base,jn P w K mg base k "how_often" 2 qv)(Q:∀base,jn P w K mg base k "worth_by" 3 qt):Ww P w K mg k yt "_law_one" (JC qv qt):=
 ⟨OO (by kernel_rfl),λ_ _ _ _ _=>rfl,λbase cl a c A o s H E h x=>yE (ZD x (Q base) h (zh (zc 0) (zh (zc 1) (zh (zc 2) zt))))⟩
def We (q:Fn)(Q:Fn):Lm:=JV (JU (WK (Vi (J1 (J1 ((jO QF).getD 0 ZF) 6) 0))) 0) ["_law_table","_law_bent"] [3,9] (zO q (zj zI (zj zD zw)))
def BX {w:World}{K:Frag}{k:Nat}(T:Bu mg)(Q:∀base,jn P w K mg base k "how_often" 2 qv)(q:∀base,jn P w K mg base k "worth_by" 3 qt):WQ P w K mg k yt (We qv qt):=
 ⟨⟨rfl,rfl,rfl,KW (by kernel_rfl)⟩,λ_ _ _ _=>rfl,λbase cl a c A o s H E h x=>yE (ZD x (Q base) h (zh (zc 0) (zh (zc 1) zt)))⟩
def K8 (Q:Fn)(q:Fn):Lm:=JV (JU (WK (Vi (J1 (J1 ((jO QF).getD 0 ZF) 6) 1))) 0) ["_law_table","_law_bent","_law_bad"] [3,9,10] (zO q (zj zI (zj zD (zj qg zw))))
def BZ {w:World}{K:Frag}{k:Nat}(T:Bu mg)(q:∀base,jn P w K mg base k "how_often" 2 qv)(Q:∀base,jn P w K mg base k "worth_by" 3 qt):WQ P w K mg k yt (K8 qv qt):=
 ⟨⟨rfl,rfl,rfl,KW (by kernel_rfl)⟩,λ_ _ _ _=>rfl,λbase cl a c A o s H E h x=>yE (ZD x (Q base) h (zh (zc 0) (zh (zc 1) (zh (zc 2) zt))))⟩
def K4 (Q:Fn)(q:Fn):Lm:=JV (JU (WK (Vi (J1 ((jO QF).getD 0 ZF) 7))) 0) ["_law_table","_law_weights","_law_bad"] [3,7,10] (zO q (zj zI (zj zD (zj qg zw))))
def Bn {w:World}{K:Frag}{k:Nat}(T:Bu mg)(q:∀base,jn P w K mg base k "how_often" 2 qv)(Q:∀base,jn P w K mg base k "worth_by" 3 qt):WQ P w K mg k yt (K4 qv qt):=
 ⟨⟨rfl,rfl,rfl,KW (by kernel_rfl)⟩,λ_ _ _ _=>rfl,λbase cl a c A o s H E h x=>yE (ZD x (Q base) h (zh (zc 0) (zh (zc 1) (zh (zc 2) zt))))⟩
def S8 (c:Fn)(d:Fn)(j:Fn)(e:Fn)(u:Fn)(a:Fn)(Z:Fn)(g:Fn)(b:Fn)(Y:Fn)(A:Fn)(L:Fn)(q:Fn)(Q:Fn)(NT:W->List W->List W->Hx->R W)(RG:Lm->Nat->List W->Hx->R W)(P:Addr):Ex:=zG (jM (jU (zm SN jj (zm Rf (mQ qu (qa zI)) Ic))) (zQ 1) (zG (qA 2 (zO g (zj zI (zj zD zw)))) (zG (qA 3 (zO b (zj qg zw))) (zG (qA 4 (qP zw)) (zG (jM (jU (zO u (zj qb zw))) (zQ 5) (zG (qA 6 (qO (zj (zm gX (zO Y (zj qg (zj Jn zw))) W4) (zj (zO Y (zj qg (zj (zm Kj JY Jn) zw))) zw)))) (zG (qA 4 (zm qJ ql (qP (zj (zm zH kU (zO Y (zj qg (zj QR zw)))) zw)))) zS))) (zG (jM (q9 (zO c (zj qb zw))) (zQ 7) (zG (jk (ym (zO Z (zj (zO A (zj qb (zj wC zw))) (zj (zO a (zj qb (zj wC zw))) zw)))) kF zS) (zG (qA 8 qB) (zG (jM (jU (mQ qu (qa ql))) (zQ 5) (zG (qA 8 (zm qJ Jk (zm qE (zm zH wC jX) (zm zH ql jX)))) zS)) (zG (jk (ym (zO Z (zj (zO L (zj qb (zj wC (zj ql zw)))) (zj Jk zw)))) kF zS) zS))))) (zG (Ke (qP (zj (zO e (zj qg (zj wC zw))) (zj (zO j (zj qg (zj ql zw))) zw))) (jZ 9 10)) (zG (jk (ym (zO d (zj qb (zj Ku zw)))) (zG (jk (zm ju (kL 1 yt P (We q Q).idx (RG (We q Q) 0)) (qO (zj (zT (.int 15)) zw))) kF zS) (zG (jk (zm ju (kL 1 yt P (K8 q Q).idx (RG (K8 q Q) 0)) (qO (zj (zT (.int 15)) zw))) kF zS) zS)) zS) (zG (jk (zm ju (kL 1 yt P (K4 q Q).idx (RG (K4 q Q) 0)) (qO (zj W4 zw))) kF zS) (zG (YX 1 yt P 11 2 (Q5 q Q).idx (JC q Q).idx NT) zS)))))))))) (zG (gm jl) zS)
def o_law {w:World}{K:Frag}{k:Nat}(T:Bu mg)(F:kS K "law" "law" QF f fd)(J:nsIn K mainGlobals "law"=some (some (.ref f)))(I:tabIn K "law"=some (c,Pt))(d:BMain mg base)(C:CodeHd base c Pt){q:Fn}(Qo:qK P w K mg base k "_law_all_weights" 1 q){p:Fn}(Zc:qK P w K mg base k "_law_are_weights" 2 p){o:Fn}(Yi:qK P w K mg base k "_law_bad_mix" 2 o){r:Fn}(Yg:qK P w K mg base k "_law_bent_weights" 2 r){u:Fn}(QV:qK P w K mg base k "_law_kinds" 1 u){i:Fn}(Ym:qK P w K mg base k "_law_often" 2 i){Z:Fn}(ZV:qK P w K mg base k "_law_same" 2 Z){y:Fn}(Yn:qK P w K mg base k "_law_state" 2 y){l:Fn}(Jp:qK P w K mg base k "_law_steady" 1 l){Y:Fn}(j4:qK P w K mg base k "_law_take" 2 Y){v:Fn}(Yu:qK P w K mg base k "how_often" 2 v){L:Fn}(Yx:qK P w K mg base k "worth_by" 3 L){RG:Lm->Nat->List W->Hx->R W}{j:Nat}(a:kk<=k)(XL_how_often:∀base,jn P w K mg base j "how_often" 2 qv)(XL_worth_by:∀base,jn P w K mg base j "worth_by" 3 qt){kn:Nat}{fN:(Obj->Addr->Obj->List V->Prop)->Fn}{NT:W->List W->List W->Hx->R W}(n:kn<=k)(N:∀b,gk base b->∀PK,(∀B,gk b B->gM P w K mg B (j+1) PK (Ya (Q5 qv qt).idx.length (Q5 qv qt).m (JC qv qt).m))->qK P w K mg b kn "_law_no_table_right" 2 (fN PK))(x:∀PK w us vs A,SU fN NT PK w us vs A)(e:∀t base PG,(∀k,Jc P w K mg base (j+1) (PG k) (gj [t] k))->qK P w K mg base kk "_law_refused" 1 (QL PG (RG t))):yi P w K mg base kE (k+1) f fd ["_law_script"] (Zw K 1 (qo 12 (S8 q p o r u i Z y l Y v L qv qt NT RG Pt))):=
 i6 F J I w5 λA D s H E h=>zq (jm PassesOwn.never rfl (jg rfl T.qY (CU rfl T.JN zx (OQ rfl T.M3 (qU T.qT (qp (zc 0))) zx))) (jh 1 w5.nd) (zq (zZ 2 w5.nd (zP Yn h (zh (zc 0) (zh (zc 1) zt)))) (zq (zZ 3 w5.nd (zP Jp h (zh (zc 2) zt))) (zq (zZ 4 w5.nd (qG zt zK)) (zq (jm PassesOwn.never rfl (jg rfl T.qY (zP QV h (zh (zc 3) zt))) (jh 5 w5.nd) (zq (zZ 6 w5.nd (qF (zh (Z2 (zP j4 h (zh (zc 2) (zh zx zt))) zx) (zh (zP j4 h (zh (zc 2) (zh (Xe zx zx) zt))) zt)) (zu (zu zK)))) (zq (zZ 4 w5.nd (qI (zc 4) (qG (zh (qe (zc 6) (zP j4 h (zh (zc 2) (zh zx zt)))) zt) (zu zK)))) zB))) (zq (jm PassesOwn.never rfl (j6 (zP Qo h (zh (zc 3) zt))) (jh 7 w5.nd) (zq (ji (wG (kh (zP ZV h (zh (zP Yu h (zh (zc 3) (zh (zc 7) zt))) (zh (zP Ym h (zh (zc 3) (zh (zc 7) zt))) zt))))) (zq (qd jH) zB) zB) (zq (zZ 8 w5.nd zx) (zq (jm PassesOwn.never rfl (jg rfl T.qY (qU T.qT (qp (zc 4)))) (jh 5 w5.nd) (zq (zZ 8 w5.nd (qI (zc 8) (jz (qe (zc 7) (zc 5)) (qe (zc 4) (zc 5))))) zB)) (zq (ji (wG (kh (zP ZV h (zh (zP Yx h (zh (zc 3) (zh (zc 7) (zh (zc 4) zt)))) (zh (zc 8) zt))))) (zq (qd jH) zB) zB) zB))))) (zq (Wd (qG (zh (zP Yg h (zh (zc 2) (zh (zc 7) zt))) (zh (zP Yi h (zh (zc 2) (zh (zc 4) zt))) zt)) (zu (zu zK))) (kG 9 10 rfl w5.nd)) (zq (ji (wG (kh (zP Zc h (zh (zc 3) (zh (zc 9) zt))))) (zq (ji (jK (kN h) (KY (t:=We qv qt) (Y2 λ_=>rfl) (BX T XL_how_often XL_worth_by).toD (by kernel_rfl) (e _) (h.mono a) d rfl C rfl rfl) (qF (zh zx zt) (zu zK))) (zq (qd jH) zB) zB) (zq (ji (jK (kN h) (KY (t:=K8 qv qt) (Y2 λ_=>rfl) (BZ T XL_how_often XL_worth_by).toD (by kernel_rfl) (e _) (h.mono a) d rfl C rfl rfl) (qF (zh zx zt) (zu zK))) (zq (qd jH) zB) zB) zB)) zB) (zq (ji (jK (kN h) (KY (t:=K4 qv qt) (Y2 λ_=>rfl) (Bn T XL_how_often XL_worth_by).toD (by kernel_rfl) (e _) (h.mono a) d rfl C rfl rfl) (qF (zh zx zt) (zu zK))) (zq (qd jH) zB) zB) (E9 (g:=NT) (zZ 11 w5.nd (qF (zh (Ni (ls:=[(Q5 qv qt)]) (t:=(Q5 qv qt)) rfl (by kernel_rfl) d rfl C rfl rfl) zt) (zu zK))) (yq (wW (zc 11) (Ni (ls:=[(JC qv qt)]) (t:=(JC qv qt)) rfl (by kernel_rfl) d rfl C rfl rfl))) (λ_ _ _ _=>ji (wG (kh (DL (t0:=(Q5 qv qt)) (t1:=(JC qv qt)) (Y2 λ_=>rfl) (kc T XL_how_often XL_worth_by) (kl T XL_how_often XL_worth_by) (by kernel_rfl) (by kernel_rfl) (show(2:Nat)+1≠1 by decide) (zc 2) (zc 11) N x (h.mono n)))) (zq h7 zB) zB) zB)))))))))) (zq (qd jH) zB)
def Eb:Fn:=qo 2 (Jt (λ_ _=>.bad))
def PN:Fn :=  Eb
def Fz:Fn:=qo 2 (Jt PN)
def PV:Fn :=  Fz
def FT:Fn:=qo 2 (Jt PV)
def PL:Fn :=  FT
def Er:Fn:=qo 2 (Jt PL)
def ZV:Fn :=  Er
structure Tx (K:Frag):Prop where
 E5:FD K "is_whole" (top 1)
 Cq:FD K "is_even" (top 27)
 IC:FD K "leaves_no_kind_out" (top 28)
 Fp:FD K "count_kinds" (top 30)
 HB:FD K "first_pairs" (top 32)
 zbf:FD K "fits" (top 40)
 AX:FD K "worth" (top 45)
 Eh:FD K "_law_take" (top 48)
 Ht:FD K "_law_cell_at" (top 49)
 FP:FD K "_law_alike" (top 51)
 Eu:FD K "_law_ring" (top 52)
 HS:FD K "_law_blocks" (top 53)
 Fq:FD K "_law_unlike" (top 54)
 Hf:FD K "_law_each_own" (top 55)
 FX:FD K "_law_pairs" (top 56)
 Fy:FD K "_law_kinds" (top 57)
 F8:FD K "_law_named" (top 62)
 F4:FD K "_law_whole" (top 68)
 Et:FD K "is_wholes" (top 2)
 Hh:FD K "count_shares" (top 31)
 HA:FD K "count_sizes" (top 37)
 Ee:FD K "_law_state" (top 50)
 Fi:FD K "_law_beside" (top 58)
 FN:FD K "_law_small" (top 59)
 HY:FD K "_law_within" (top 60)
 FK:FD K "_law_mixed" (top 61)
 FZ:FD K "_law_sizes" (top 65)
 Fo:FD K "_law_shares" (top 66)
 IJ:FD K "_law_bent_weights" (top 73)
 Ha:FD K "_law_bad_table" (top 75)
 Fd:FD K "_law_broken" (top 76)
 Hs:FD K "_law_bad_mix" (top 78)
 IX:FD K "is_wholes_below" (top 3)
 HZ:FD K "kind_shares" (top 33)
 Hj:FD K "search_break" (top 34)
 HI:FD K "require_mix" (top 38)
 Fg:FD K "count_often" (top 43)
 IH:FD K "_law_turned_about" (top 63)
 Hi:FD K "_law_numbers" (top 67)
 FC:FD K "_law_often" (top 72)
 EV:FD K "is_table" (top 26)
 IL:FD K "is_weights_tuple" (top 41)
 Fc:FD K "_law_steady" (top 64)
 IM:FD K "_law_are_weights" (top 69)
 GC:FD K "_law_same" Uz
 Hg:FD K "require_table" (top 29)
 IV:FD K "require_weights" (top 42)
 IS:FD K "_law_all_weights" (top 70)
 Hd:FD K "require_steady" (top 35)
 Ef:FD K "how_often" (top 44)
 EO:FD K "worth_by" (top 46)
 Ho:FD K "_law_refused" V6
 Iz:FD K "_law_no_table_right" KC
 zdH:FD K "law" QF
 Fv:nsIn K mainGlobals "ValueError"=some none
 zdk:nsIn K mainGlobals "all"=some none
 zeM:nsIn K mainGlobals "any"=some none
 za7:nsIn K mainGlobals "bool"=some none
 Ek:nsIn K mainGlobals "enumerate"=some none
 zdE:nsIn K mainGlobals "int"=some none
 FH:nsIn K mainGlobals "isinstance"=some none
 zet:nsIn K mainGlobals "len"=some none
 zbK:nsIn K mainGlobals "list"=some none
 zdQ:nsIn K mainGlobals "max"=some none
 zeo:nsIn K mainGlobals "min"=some none
 zaW:nsIn K mainGlobals "range"=some none
 zdi:nsIn K mainGlobals "set"=some none
 CK:nsIn K mainGlobals "sorted"=some none
 zd8:nsIn K mainGlobals "sum"=some none
 zaV:nsIn K mainGlobals "tuple"=some none
 zel:nsIn K mainGlobals "zip"=some none
 HD:CD K "MOST_PLACES" 8
 zed:jJ.all (XO K "NearError" ·)=true
 zd0:Si K "NearError"=true
 zdd:GZ.all (Ja K jJ)=true
section
variable {w:World}{K:Frag}
def bu (X:K.In h)(G:h.Ns mainGlobals mg)(T:Tx K):Bu mg:=⟨aV X G T.Fv,aV X G T.zdk,aV X G T.zeM,aV X G T.za7,aV X G T.Ek,aV X G T.zdE,aV X G T.FH,aV X G T.zet,aV X G T.zbK,aV X G T.zdQ,aV X G T.zeo,aV X G T.zaW,aV X G T.zdi,aV X G T.CK,aV X G T.zd8,aV X G T.zaV,aV X G T.zel,(let ⟨t,e⟩:=T.HD;⟨t,mg_of X G e⟩)⟩
def cl (T:Tx K):gy K jJ "NearError":=iA T.zed T.zd0
structure Zz (K:Frag)(h:Heap)(mg:bY):Prop where
 X:K.In h
 G:h.Ns mainGlobals mg
 T:Tx K
 B:Bu mg
 C:gy K jJ "NearError"
def zz (X:K.In h)(G:h.Ns mainGlobals mg)(T:Tx K):Zz K h mg:=⟨X,G,T,bu X G T,cl T⟩
abbrev Gt (l:Nat)(x:Str)(n:Nat)(F:Fn):Prop:=∀{P:Program}{w:World}{K:Frag}{mg:bY}{base h:Heap}(_:Zz K h mg),qK P w K mg base l x n F
abbrev Qm (l:Nat)(x:Str)(n N:Nat):=Σ' m:Ex,Gt l x n (qo N m)
def Gi {l:Nat}{F:Fn}(q:Gt l x n F):Gt l x n (iso F):=λZ=>(q Z).iso
def Gl {l:Nat}{F:Fn}(q:Gt l x n F):Gt l x n (kx F):=λZ=>(q Z).kx
abbrev Qx (l:Nat)(x:Str)(n N:Nat):=Σ' m:Ex,∀{P:Program}{w:World}{K:Frag}{mg:bY}{base h:Heap}(_:Zz K h mg),jn P w K mg base l x n (wK N m)
def gN {t:Stmt}{k N:Nat}{m:Ex}(Z:Zz K h mg)(e:FD K x t)
  (B:∀{f:Addr}{C:Value}{A:Around}{j:bZ}{s:Shared}{H:Hp}{E:XK}(_:(yI (qc t)).Nodup),jb k (A.deeper (PyProof.Rows.envOfC x (qc t) s.heap.objs.size f C))->yy (yU kE P w K mg base (yI (qc t)) x (qc t) f C A j s H E).nox jR (jO t) m)
  (S:k9 (yI (qc t)) ((yI (qc t)).take n) (qc t):=by exact Yb (by kernel_rfl))(l:((yI (qc t)).take n).length=n:=by kernel_rfl)(i:(yI (qc t)).length=N:=by kernel_rfl)
  (g:∀(kV D p:Value)(q:b9)(C ct:Value)(u:bQ),u.length=n->bindArgs (fnOf x x (Zd t) (jO t) (qc t) .none kV D p q C ct) ⟨u,[]⟩=pure (((yI (qc t)).take n).zip u):=by first|exactλ_ _ _ _ _ _=>Vx λ_=>rfl|exactλ_ _ _ _ _ _=>Ks λ_ _=>rfl|exactλ_ _ _ _ _ _=>RM λ_ _ _=>rfl|exactλ_ _ _ _ _ _=>bd4 λ_ _ _ _=>rfl|exactλ_ _ _ _ _ _=>bd5 λ_ _ _ _ _=>rfl):
  qK P w K mg base (k+1) x n (qo N m):=by
 obtain⟨f,v,F,a⟩:=e
 have:=Rv F (mg_of Z.X Z.G a) S (λa b c d e f u h=>g a b c d e f u (h.trans l)) λc A o s H E r=>B S.nd r
 rw[l,i]at this;exact this
def mq {t:Stmt}{k N:Nat}{m:Ex}(d:∀{K:Frag}{h:Heap}{M:bY},Zz K h M->FD K x t)(B:∀{P:Program}{w:World}{K:Frag}{M:bY}{e h:Heap}{f:Addr}{c:Value}{A:Around}{o:bZ}{s:Shared}{H:Hp}{E:XK}(_:Zz K h M)(_:(yI (qc t)).Nodup),jb k (A.deeper (PyProof.Rows.envOfC x (qc t) s.heap.objs.size f c))->yy (yU kE P w K M e (yI (qc t)) x (qc t) f c A o s H E).nox jR (jO t) m)
  (S:k9 (yI (qc t)) ((yI (qc t)).take n) (qc t):=by exact Yb (by kernel_rfl))(g:((yI (qc t)).take n).length=n:=by kernel_rfl)(a:(yI (qc t)).length=N:=by kernel_rfl)
  (b:∀(kV D p:Value)(i:b9)(c ct:Value)(u:bQ),u.length=n->bindArgs (fnOf x x (Zd t) (jO t) (qc t) .none kV D p i c ct) ⟨u,[]⟩=pure (((yI (qc t)).take n).zip u):=by first|exactλ_ _ _ _ _ _=>Vx λ_=>rfl|exactλ_ _ _ _ _ _=>Ks λ_ _=>rfl|exactλ_ _ _ _ _ _=>RM λ_ _ _=>rfl|exactλ_ _ _ _ _ _=>bd4 λ_ _ _ _=>rfl|exactλ_ _ _ _ _ _=>bd5 λ_ _ _ _ _=>rfl):Qm (k+1) x n N:=⟨m,λZ=>gN Z (d Z) (λn r=>B Z n r) S g a b⟩
def gY {t:Stmt}{k N:Nat}{m:Ex}(Z:Zz K h mg)(e:FD K x t)
  (B:∀{f:Addr}{C:Value}{A:Around}{l:bZ}{s:Shared}{H:Hp}{E:XK}(_:(yI (qc t)).Nodup),jb k (A.deeper (PyProof.Rows.envOfC x (qc t) s.heap.objs.size f C))->wy (yU (wD P w) P w K mg base (yI (qc t)) x (qc t) f C A l s H E) s.heap (yW K E)->yy (yU (wD P w) P w K mg base (yI (qc t)) x (qc t) f C A l s H E) (yW K E) (jO t) m)
  (S:k9 (yI (qc t)) ((yI (qc t)).take n) (qc t):=by exact Yb (by kernel_rfl))(p:((yI (qc t)).take n).length=n:=by kernel_rfl)(j:(yI (qc t)).length=N:=by kernel_rfl)
  (i:∀(kV D q:Value)(v:b9)(C ct:Value)(u:bQ),u.length=n->bindArgs (fnOf x x (Zd t) (jO t) (qc t) .none kV D q v C ct) ⟨u,[]⟩=pure (((yI (qc t)).take n).zip u):=by first|exactλ_ _ _ _ _ _=>Vx λ_=>rfl|exactλ_ _ _ _ _ _=>Ks λ_ _=>rfl|exactλ_ _ _ _ _ _=>RM λ_ _ _=>rfl|exactλ_ _ _ _ _ _=>bd4 λ_ _ _ _=>rfl):
  jn P w K mg base (k+1) x n (wK N m):=by
 obtain⟨f,y,F,a⟩:=e
 have:=i3 F (mg_of Z.X Z.G a) S (λa b c d e f u h=>i a b c d e f u (h.trans p)) λc A o s H E r g=>B S.nd r g
 rw[p,j]at this;exact this
def UI:Qm 1 "is_whole" 1 1:=mq (·.T.E5) λZ n h=>zq (qd (ZE (gJ .int Z.B.jy Z.B.Ws (by rfl) (zc 0)) (Z3 (NA (gJ .bl Z.B.jy Z.B.XM (by rfl) (zc 0)))))) zB
def UG:Fn:=qo 1 UI.1
def Ju:Fn :=  UG
def Dh:Gt 1 "is_whole" 1 Ju:=UI.2
def UQ:Qm 1 "is_even" 1 5:=mq (·.T.Cq) λZ n h=>zq (jm PassesOwn.never rfl (YF rfl Z.B.Yq (zc 0)) (kG 1 2 rfl n) (zq (jm PassesOwn.never rfl (YF rfl Z.B.Yq (zc 2)) (kG 3 4 rfl n) (zq (ji (Q0 (Wl (jK (kN h) (w6 (kM h) (zc 4) zx) (w6 (kM h) (zc 1) (zc 3))) (K6 (jK (kN h) (qe (qe (zc 0) (zc 3)) (zc 1)) (zc 4))))) (zq (qd jH) zB) zB) zB)) zB)) (zq (qd jH) zB)
def Du:Fn:=qo 5 UQ.1
def OB:Fn:=iso Du
def D5:Gt 1 "is_even" 1 OB:=Gi UQ.2
def VS:Qm 1 "leaves_no_kind_out" 1 2:=mq (·.T.IC) λZ n H=>zq (zZ 1 n (gD (JJ (N:=["row","kind"]) 2 [] (j6 (zc 0)) (λ_ _ _=>⟨jh 0 (wu (by kernel_rfl)),wY,h6 (λ_ _ z=>z) rfl rfl (by intro _ h;cases h<;>rfl) (j6 (zc 0)) (jh 1 (wu (by kernel_rfl))) wY (wM (zc 1))⟩)))) (zq (qd (YL rfl Z.B.Y9 (yc (jL [1] (jg rfl Z.B.qY (YK rfl Z.B.JN (qp (zc 1)))) (λ_ _ _=>hX fO (zc 0) (zc 1)))))) zB)
def IA:Fn:=qo 2 VS.1
def RT:Fn:=iso IA
def ID:Gt 1 "leaves_no_kind_out" 1 RT:=Gi VS.2
def Ug:Qm 1 "count_kinds" 1 1:=mq (·.T.Fp) λZ n h=>zq (qd (qI (YK rfl Z.B.JN (yc (jL [] (j6 (zc 0)) (λ_ _ _=>YK rfl Z.B.JN (qp (zc 0)))))) zx)) zB
def HR:Fn:=qo 1 Ug.1
def Yk:Fn:=iso HR
def KN:Gt 1 "count_kinds" 1 Yk:=Gi Ug.2
def Ud:Qm 1 "first_pairs" 1 6:=mq (·.T.HB) λZ n h=>zq (zZ 1 n Xl) (zq (jm PassesOwn.never rfl (YF rfl Z.B.Yq (zc 0)) (kG 2 3 rfl n) (zq (jm PassesOwn.never rfl (YF rfl Z.B.Yq (zc 3)) (kG 4 5 rfl n) (zq (yq (EF (zc 1) (zc 5) (qG (zh (zc 2) (zh (zc 4) zt)) (zu (zu zK))))) zB)) zB)) (zq (qd (zc 1)) zB))
def Pq:Fn:=qo 6 Ud.1
def Gp:Fn:=iso Pq
def Pm:Gt 1 "first_pairs" 1 Gp:=Gi Ud.2
def XG:Qm 1 "fits" 2 7:=mq (·.T.zbf) λZ n h=>zq (zZ 2 n (qU Z.B.qT (qp (zc 1)))) (zq (jm PassesOwn.never rfl (jg rfl Z.B.qY (zc 2)) (jh 3 n) (zq (jm PassesOwn.never rfl (jg rfl Z.B.qY (zc 2)) (jh 4 n) (zq (Yt 5 (N:=["by_kind","i","j"]) 1 [3,4] n rfl (cps (by kernel_rfl)) (by kernel_rfl) (j6 (gC (zc 0) (gF (zc 2)) gK)) (λ_ _ _=>⟨jh 0 (wu (by kernel_rfl)),wY,wM (qe (qe (zc 0) (zc 1)) (zc 2))⟩)) (zq (Yt 6 (N:=["by_kind","weight","i","j"]) 2 [3,4] n rfl (cps (by kernel_rfl)) (by kernel_rfl) (YO rfl Z.B.Y7 (zc 0) (zc 1)) (λ_ _ _=>⟨kG 0 1 rfl (wu (by kernel_rfl)),wY,wM (jz (qe (qe (zc 0) (zc 2)) (zc 3)) (zc 1))⟩)) (zq (ji (Q0 (Tc (wG (kh (AO rfl Z.B.zef (qp (zc 5))))) (UT (jK (kN h) (jz (qe (zc 1) (zc 3)) (qe (zc 1) (zc 4))) (Xo rfl Z.B.Vc (qp (zc 6))))))) (zq (qd jH) zB) zB) zB)))) zB)) (zq (qd jH) zB))
def T8:Fn:=qo 7 XG.1
def TV:Fn:=kx T8
def kr:Gt 1 "fits" 2 TV:=Gl XG.2
def U8:Qm 1 "worth" 2 2:=mq (·.T.AX) λZ n h=>zq (qd (Xo rfl Z.B.Vc (yc (JJ (N:=["weight","part"]) 2 [] (YO rfl Z.B.Y7 (zc 0) (zc 1)) (λ_ _ _=>⟨kG 0 1 rfl (wu (by kernel_rfl)),wY,wM (jz (zc 0) (zc 1))⟩))))) zB
def kv:Fn:=qo 2 U8.1
def Nt:Fn:=iso kv
def AG:Gt 1 "worth" 2 Nt:=Gi U8.2
def GD:Qm 1 "_law_take" 2 4:=mq (·.T.Eh) λZ n h=>zq (ji (kh (qe (zc 0) zx)) (zq (zZ 2 n (gG (qe (zc 0) zx) (zc 1))) (zq (Wb (ZZ (qe (zc 0) zx) (zc 1)) (zc 0) zx) (zq (qd (zc 2)) zB))) zB) (zq (Wb (gG (qI (jz (qe (zc 0) zx) zx) zx) zx) (zc 0) zx) (zq (zZ 3 n (gG (qI (qI (jz (qe (zc 0) zx) (qe (zc 0) zx)) (jz zx (qe (zc 0) zx))) zx) zx)) (zq (zZ 3 n (gG (qI (jz (zc 3) (zc 3)) (jz zx (zc 3))) zx)) (zq (qd (gG (ZZ (zc 3) zx) (zc 1))) zB))))
def QX:Fn:=qo 4 GD.1
def j4:Fn:=kx QX
def ka:Gt 1 "_law_take" 2 j4:=Gl GD.2
def Gk:Qm 1 "_law_cell_at" 2 2:=mq (·.T.Ht) λZ n h=>zq (ji (jK WL (zc 1) (qU Z.B.qT (qp (zc 0)))) (zq (qd (qe (zc 0) (zc 1))) zB) zB) (zq (qd zx) zB)
def Hw:Fn:=qo 2 Gk.1
def V9:Fn :=  Hw
def Hy:Gt 1 "_law_cell_at" 2 V9:=Gk.2
def PC:Qm 1 "_law_alike" 1 1:=mq (·.T.FP) λZ n h=>zq (qd (j9 Z.B.jD (yc (jL [0] (jg rfl Z.B.qY (zc 0)) (λ_ _ _=>j9 Z.B.jD (yc (jL [0] (jg rfl Z.B.qY (zc 1)) (λ_ _ _=>UR Z.B.Ws (w6 (kN h) (zc 1) (zc 0)))))))))) zB
def Ux:Fn:=qo 1 PC.1
def Yp:Fn:=iso Ux
def Jr:Gt 1 "_law_alike" 1 Yp:=Gi PC.2
def P6:Qm 1 "_law_ring" 1 1:=mq (·.T.Eu) λZ n h=>zq (qd (j9 Z.B.jD (yc (jL [0] (jg rfl Z.B.qY (zc 0)) (λ_ _ _=>j9 Z.B.jD (yc (jL [0,1] (jg rfl Z.B.qY (zc 1)) (λ_ _ _=>OQ rfl Z.B.M3 (gG (Z2 (zc 1) (zc 0)) (zc 2)) (gG (Z2 (zc 0) (zc 1)) (zc 2)))))))))) zB
def P5:Fn:=qo 1 P6.1
def P7:Fn:=iso P5
def PY:Gt 1 "_law_ring" 1 P7:=Gi P6.2
def Pg:Qm 1 "_law_blocks" 2 6:=mq (·.T.HS) λZ n h=>zq (zZ 2 n (qF zt zK)) (zq (jm PassesOwn.never rfl (jg rfl Z.B.qY (jz (zc 0) (zc 1))) (jh 3 n) (zq (zZ 4 n (qF zt zK)) (zq (jm PassesOwn.never rfl (jg rfl Z.B.qY (jz (zc 0) (zc 1))) (jh 5 n) (zq (yq (wW (zc 4) (qI (UR Z.B.Ws (w6 (kN h) (zc 3) (zc 5))) (UR Z.B.Ws (ZE (w6 (kN h) (ZZ (zc 3) (zc 1)) (ZZ (zc 5) (zc 1))) (Z3 (w6 LP (zc 1) zx))))))) zB)) (zq (yq (wW (zc 2) (j9 Z.B.jD (qp (zc 4))))) zB)))) (zq (qd (j9 Z.B.jD (qp (zc 2)))) zB))
def Ph:Fn:=qo 6 Pg.1
def Fh:Fn:=iso Ph
def Ff:Gt 1 "_law_blocks" 2 Fh:=Gi Pg.2
def Pl:Qm 1 "_law_unlike" 1 3:=mq (·.T.Fq) λZ n h=>zq (zZ 1 n (qF zt zK)) (zq (jm PassesOwn.never rfl (jg rfl Z.B.qY (Xk zx (zc 0))) (jh 2 n) (zq (yq (wW (zc 1) (j9 Z.B.jD (yc (jL [0,2] (jg rfl Z.B.qY (Xk zx (zc 0))) (λ_ _ _=>Od (gD (jL [0,2] (jg rfl Z.B.qY (zc 1)) (λ_ _ _=>CV (AE (NK (zc 2) (zc 1)) (zc 0)) zx))) zx)))))) zB)) (zq (qd (j9 Z.B.jD (qp (zc 1)))) zB))
def Pp:Fn:=qo 3 Pl.1
def Fb:Fn:=iso Pp
def HL:Gt 1 "_law_unlike" 1 Fb:=Gi Pl.2
def R6:Qm 1 "_law_each_own" 1 1:=mq (·.T.Hf) λZ n h=>zq (qd (j9 Z.B.jD (yc (jL [0] (jg rfl Z.B.qY (Xk zx (zc 0))) (λ_ _ _=>j9 Z.B.jD (yc (jL [0] (jg rfl Z.B.qY (Xk zx (zc 1))) (λ_ _ _=>NK (zc 1) (zc 0))))))))) zB
def R5:Fn:=qo 1 R6.1
def R8:Fn:=iso R5
def R7:Gt 1 "_law_each_own" 1 R8:=Gi R6.2
def PQ:Qm 1 "_law_pairs" 1 5:=mq (·.T.FX) λZ n h=>zq (zZ 1 n (qF zt zK)) (zq (jm PassesOwn.never rfl (jg rfl Z.B.qY (zc 0)) (jh 2 n) (zq (yq (Oc (zc 1) (gD (jL [2] (G3 rfl Z.B.qY (qI (zc 2) zx) (zc 0)) (λ_ _ _=>qG (zh (zc 1) (zh (zc 0) zt)) (zu (zu zK))))))) zB)) (zq (zZ 3 n (qF zt zK)) (zq (jm PassesOwn.never rfl (j6 (zc 1)) (jh 4 n) (zq (yq (wW (zc 3) (j9 Z.B.jD (yc (jL [4] (j6 (zc 1)) (λ_ _ _=>Z2 zx (EE rfl Z.B.qT Z.B.zdn (qI (zc 1) (zc 0))))))))) zB)) (zq (qd (j9 Z.B.jD (yc (jL [] (j6 (zc 3)) (λ_ _ _=>j9 Z.B.jD (yc (jL [] (j6 (zc 0)) (λ_ _ _=>qe (qF (zh zx (zh zx (zh zx zt))) (zu (zu (zu zK)))) (zc 0))))))))) zB))))
def Px:Fn:=qo 5 PQ.1
def Fx:Fn:=iso Px
def FA:Gt 1 "_law_pairs" 1 Fx:=Gi PQ.2
def PR:Qm 1 "_law_kinds" 1 1:=mq (·.T.Fy) λZ n h=>zq (qd (qI (YK rfl Z.B.JN (yc (jL [] (j6 (zc 0)) (λ_ _ _=>YK rfl Z.B.JN (qp (zc 0)))))) zx)) zB
def FW:Fn:=qo 1 PR.1
def QV:Fn:=iso FW
def Jq:Gt 1 "_law_kinds" 1 QV:=Gi PR.2
def Us:Qm 1 "_law_named" 3 3:=mq (·.T.F8) λZ n h=>zq (qd (j9 Z.B.jD (yc (jL [0,1,2] (j6 (zc 1)) (λ_ _ _=>j9 Z.B.jD (yc (jL [0,1,3] (j6 (zc 2)) (λ_ _ _=>qe (zc 3) (qe (qe (zc 2) (zc 1)) (zc 0)))))))))) zB
def Pr:Fn:=qo 3 Us.1
def Uu:Fn :=  Pr
def FL:Gt 1 "_law_named" 3 Uu:=Us.2
def PD:Qm 1 "_law_whole" 1 1:=mq (·.T.F4) λZ n h=>zq (qd (ZE (gJ .int Z.B.jy Z.B.Ws (by rfl) (zc 0)) (Z3 (NA (gJ .bl Z.B.jy Z.B.XM (by rfl) (zc 0)))))) zB
def F0:Fn:=qo 1 PD.1
def Gv:Fn:=iso F0
def FU:Gt 1 "_law_whole" 1 Gv:=Gi PD.2
def Js:Qm 2 "is_wholes" 2 2:=mq (·.T.Et) λZ n h=>zq (qd (ZE (gJ .tup Z.B.jy Z.B.jD (by rfl) (zc 0)) (ZE (w6 (kM h) (qU Z.B.qT (qp (zc 0))) (zc 1)) (Z3 (YL rfl Z.B.Y9 (yc (jL [] (j6 (zc 0)) (λ_ _ _=>zP (Dh Z).up h (zh (zc 0) zt))))))))) zB
def Yr:Fn:=qo 2 Js.1
def gz:Fn :=  Yr
def UA:Gt 2 "is_wholes" 2 gz:=Js.2
def Ub:Qm 2 "count_shares" 3 7:=mq (·.T.Hh) λZ n h=>zq (zZ 3 n (zP (KN Z).up h (zh (zc 0) zt))) (zq (Yt 4 (N:=["kind","many"]) 1 [3] n rfl (cps (by kernel_rfl)) (by kernel_rfl) (jg rfl Z.B.qY (zc 3)) (λ_ _ _=>⟨jh 0 (wu (by kernel_rfl)),wY,wM (jz (qF (zh zx zt) (zu zK)) (zc 1))⟩)) (zq (jm PassesOwn.never rfl (YO rfl Z.B.Y7 (qe (zc 0) (zc 1)) (qe (zc 0) (zc 2))) (kG 5 6 rfl n) (zq (Ab (qe (zc 4) (zc 5)) (zc 6) zx) zB)) (zq (qd (j9 Z.B.jD (yc (jL [] (j6 (zc 4)) (λ_ _ _=>j9 Z.B.jD (qp (zc 0))))))) zB)))
def Hn:Fn:=qo 7 Ub.1
def Yj:Fn:=iso Hn
def V5:Gt 2 "count_shares" 3 Yj:=Gi Ub.2
def Ui:Qm 2 "count_sizes" 1 1:=mq (·.T.HA) λZ n h=>zq (qd (gD (jL [0] (jg rfl Z.B.qY (zP (KN Z).up h (zh (zc 0) zt))) (λ_ _ _=>OK (qe (zc 1) zx) (zc 0))))) zB
def Fm:Fn:=qo 1 Ui.1
def KL:Fn:=iso Fm
def HG:Gt 2 "count_sizes" 1 KL:=Gi Ui.2
def Gz:Qm 2 "_law_state" 2 3:=mq (·.T.Ee) λZ n h=>zq (zZ 2 n (zP (Hy Z).up h (zh (zc 0) (zh (zc 1) zt)))) (zq (ji (jK ft (zc 2) (Xe zx zx)) (zq (qd (qF (zh (Z2 (zc 2) (Xe zx zx)) (zh jH zt)) (zu (zu zK)))) zB) zB) (zq (qd (qF (zh (gG (zc 2) zx) (zh jH zt)) (zu (zu zK)))) zB))
def FF:Fn:=qo 3 Gz.1
def Yn:Fn :=  FF
def FJ:Gt 2 "_law_state" 2 Yn:=Gz.2
def Pd:Qm 2 "_law_beside" 2 8:=mq (·.T.Fi) λZ n h=>zq (NU 2 3 rfl n (zP (Jq Z).up h (zh (zc 1) zt)) (qF zt zK)) (zq (jm PassesOwn.never rfl (jg rfl Z.B.qY (jz (qU Z.B.qT (qp (zc 0))) (qU Z.B.qT (qp (zc 1))))) (jh 4 n) (zq (zZ 5 n (qF zt zK)) (zq (jm PassesOwn.never rfl (jg rfl Z.B.qY (jz (qU Z.B.qT (qp (zc 0))) (qU Z.B.qT (qp (zc 1))))) (jh 6 n) (zq (zZ 7 n (qe (qe (zc 0) (ZZ (zc 4) (qU Z.B.qT (qp (zc 1))))) (ZZ (zc 6) (qU Z.B.qT (qp (zc 1)))))) (zq (yq (wW (zc 5) (qI (jz (zc 7) (zc 2)) (qe (qe (zc 1) (gG (zc 4) (qU Z.B.qT (qp (zc 1))))) (gG (zc 6) (qU Z.B.qT (qp (zc 1)))))))) zB))) (zq (yq (wW (zc 3) (j9 Z.B.jD (qp (zc 5))))) zB)))) (zq (qd (j9 Z.B.jD (qp (zc 3)))) zB))
def Pf:Fn:=qo 8 Pd.1
def HQ:Fn:=iso Pf
def HU:Gt 2 "_law_beside" 2 HQ:=Gi Pd.2
def Uv:Qm 2 "_law_small" 1 2:=mq (·.T.FN) λZ n h=>zq (zZ 1 n (zP (ka Z).up h (zh (zc 0) (zh zx zt)))) (zq (qd (qe (qF (zh (zP (Jr Z).up h (zh zx zt)) (zh (zP (Jr Z).up h (zh zx zt)) (zh (zP (PY Z).up h (zh zx zt)) (zh (zP (Jr Z).up h (zh zx zt)) (zh (zP (R7 Z).up h (zh zx zt)) zt))))) (zu (zu (zu (zu (zu zK)))))) (zc 1))) zB)
def Fw:Fn:=qo 2 Uv.1
def Uw:Fn:=kx Fw
def PX:Gt 2 "_law_small" 1 Uw:=Gl Uv.2
def Pe:Qm 2 "_law_within" 2 8:=mq (·.T.HY) λZ n h=>zq (NU 2 3 rfl n (Z2 (zP (Jq Z).up h (zh (zc 1) zt)) zx) (qF zt zK)) (zq (jm PassesOwn.never rfl (jg rfl Z.B.qY (jz (qU Z.B.qT (qp (zc 0))) (qU Z.B.qT (qp (zc 1))))) (jh 4 n) (zq (zZ 5 n (qF zt zK)) (zq (jm PassesOwn.never rfl (jg rfl Z.B.qY (jz (qU Z.B.qT (qp (zc 0))) (qU Z.B.qT (qp (zc 1))))) (jh 6 n) (zq (zZ 7 n (qe (qe (zc 0) (ZZ (zc 4) (qU Z.B.qT (qp (zc 1))))) (ZZ (zc 6) (qU Z.B.qT (qp (zc 1)))))) (zq (yq (wW (zc 5) (hZ (jK LP (zc 7) zx) (qI (zc 7) (zc 2)) (qe (qe (zc 1) (gG (zc 4) (qU Z.B.qT (qp (zc 1))))) (gG (zc 6) (qU Z.B.qT (qp (zc 1)))))))) zB))) (zq (yq (wW (zc 3) (j9 Z.B.jD (qp (zc 5))))) zB)))) (zq (qd (j9 Z.B.jD (qp (zc 3)))) zB))
def Pj:Fn:=qo 8 Pe.1
def HJ:Fn:=iso Pj
def HP:Gt 2 "_law_within" 2 HJ:=Gi Pe.2
def Ut:Qm 2 "_law_mixed" 2 4:=mq (·.T.FK) λZ n h=>zq (zZ 2 n (EC rfl Z.B.Q8 Z.B.qY (zc 1))) (zq (zZ 3 n (qF zt zK)) (zq (DM 1000 PassesOwn.never (jK (kN h) (zc 2) (qF zt zK)) (zq (yq (wW (zc 3) (D2 (zc 2) (zP (ka Z).up h (zh (zc 0) (zh (qU Z.B.qT (qp (zc 2))) zt)))))) zB)) (zq (qd (j9 Z.B.jD (qp (zc 3)))) zB)))
def PH:Fn:=qo 4 Ut.1
def Yo:Fn:=kx PH
def PM:Gt 2 "_law_mixed" 2 Yo:=Gl Ut.2
def Py:Qm 2 "_law_sizes" 1 1:=mq (·.T.FZ) λZ n h=>zq (qd (gD (jL [0] (jg rfl Z.B.qY (zP (Jq Z).up h (zh (zc 0) zt))) (λ_ _ _=>OK (qe (zc 1) zx) (zc 0))))) zB
def F6:Fn:=qo 1 Py.1
def Uy:Fn:=iso F6
def Pw:Gt 2 "_law_sizes" 1 Uy:=Gi Py.2
def Uh:Qm 2 "_law_shares" 3 8:=mq (·.T.Fo) λZ n h=>zq (zZ 3 n (zP (Jq Z).up h (zh (zc 0) zt))) (zq (zZ 4 n (qF zt zK)) (zq (jm PassesOwn.never rfl (jg rfl Z.B.qY (zc 3)) (jh 5 n) (zq (zZ 6 n (qF zt zK)) (zq (jm PassesOwn.never rfl (jg rfl Z.B.qY (zc 3)) (jh 7 n) (zq (yq (wW (zc 6) (Od (gD (jL [0,1,2,5,7] (jg rfl Z.B.qY (qU Z.B.qT (qp (zc 0)))) (λ_ _ _=>ZE (w6 (kM h) (qe (qe (zc 1) (zc 2)) (zc 0)) (zc 4)) (Z3 (w6 (kM h) (qe (qe (zc 1) (zc 3)) (zc 0)) (zc 5)))))) jH))) zB)) (zq (yq (wW (zc 4) (zc 6))) zB)))) (zq (qd (zc 4)) zB)))
def HE:Fn:=qo 8 Uh.1
def Up:Fn :=  HE
def HW:Gt 2 "_law_shares" 3 Up:=Uh.2
def VT:Qm 2 "_law_bent_weights" 2 6:=mq (·.T.IJ) λZ n h=>zq (zZ 2 n (zP (ka Z).up h (zh (zc 0) (zh (qI (qU Z.B.qT (qp (zc 1))) zx) zt)))) (zq (zZ 3 n (qe (qF (zh zx (zh zx (zh (Td zx) (zh zx (zh jH (zh Qr (zh JD (zh (qG (zh zx zt) (zu zK)) (zh (Xe zx zx) (zh jH zt)))))))))) (zu (zu (zu (zu (zu (zu (zu (zu (zu (zu zK))))))))))) (zP (ka Z).up h (zh (zc 0) (zh zx zt))))) (zq (zZ 4 n (qI (G9 Z.B.Q8 (qp (zc 1))) (qF (zh zx zt) (zu zK)))) (zq (Wb (Z2 zx (qe (zc 4) (zc 2))) (zc 4) (zc 2)) (zq (zZ 5 n (qF (zh (qI (qI (gC (zc 1) gK (gF (zc 2))) (qG (zh (zc 3) zt) (zu zK))) (gC (zc 1) (gF (qI (zc 2) zx)) gK)) (zh (qI (qI (gC (zc 1) gK (gF (zc 2))) (qG (zh (zc 3) zt) (zu zK))) (gC (zc 1) (gF (zc 2)) gK)) zt)) (zu (zu zK)))) (zq (zZ 5 n (qI (zc 5) (qF (zh (qI (gC (zc 1) gK (gF (zc 2))) (gC (zc 1) (gF (qI (zc 2) zx)) gK)) (zh (G9 Z.B.Q8 (qp (zc 1))) (zh (BM (zc 1) (Td zx)) (zh (qI (gC (zc 1) (gF (zc 2)) gK) (gC (zc 1) gK (gF (zc 2)))) zt)))) (zu (zu (zu (zu zK))))))) (zq (zZ 5 n (qI (zc 5) (qF (zh Qr (zh Xl (zh zx (zh (qG (zh (zc 1) zt) (zu zK)) (zh (qG zt zK) zt))))) (zu (zu (zu (zu (zu zK)))))))) (zq (qd (qe (qI (zc 5) (qF (zh (j9 Z.B.jD (qp (gC (zc 4) gK (gF (qU Z.B.qT (qp (zc 1))))))) zt) (zu zK))) (zP (ka Z).up h (zh (zc 0) (zh zx zt))))) zB)))))))
def IG:Fn:=qo 6 VT.1
def Yg:Fn :=  IG
def IE:Gt 2 "_law_bent_weights" 2 Yg:=VT.2
def V1:Qm 2 "_law_bad_table" 1 2:=mq (·.T.Ha) λZ n h=>zq (zZ 1 n (qF (zh Qr (zh zx (zh (qG zt zK) (zh (qG (zh (qG (zh zx zt) (zu zK)) zt) (zu zK)) (zh (qG (zh (qG (zh zx (zh zx zt)) (zu (zu zK))) (zh (qG (zh zx (zh zx zt)) (zu (zu zK))) (zh (qG (zh zx (zh zx zt)) (zu (zu zK))) zt))) (zu (zu (zu zK)))) (zh (qG (zh (qG (zh zx (zh zx zt)) (zu (zu zK))) (zh (qG (zh zx (zh zx zt)) (zu (zu zK))) zt)) (zu (zu zK))) (zh (qG (zh (qG (zh zx (zh zx zt)) (zu (zu zK))) (zh (qG (zh zx (zh zx zt)) (zu (zu zK))) zt)) (zu (zu zK))) (zh (qF (zh (qG (zh zx (zh zx zt)) (zu (zu zK))) (zh (qG (zh zx (zh zx zt)) (zu (zu zK))) zt)) (zu (zu zK))) zt)))))))) (zu (zu (zu (zu (zu (zu (zu (zu zK)))))))))) (zq (zZ 1 n (qI (zc 1) (qF (zh (qG (zh (qG (zh zx (zh zx zt)) (zu (zu zK))) (zh (qG (zh zx (zh zx zt)) (zu (zu zK))) zt)) (zu (zu zK))) (zh (qG (zh (qG (zh zx (zh jH zt)) (zu (zu zK))) (zh (qG (zh jH (zh zx zt)) (zu (zu zK))) zt)) (zu (zu zK))) (zh (qG (zh (qG (zh zx (zh zx zt)) (zu (zu zK))) (zh (qF (zh zx (zh zx zt)) (zu (zu zK))) zt)) (zu (zu zK))) (zh (qG (zh (qG (zh zx (zh zx zt)) (zu (zu zK))) zt) (zu zK)) (zh JD (zh Xl (zh (Nm (qG (zh (Nm (qG (zh zx zt) (zu zK)) zx) zt) (zu zK)) zx) zt))))))) (zu (zu (zu (zu (zu (zu (zu zK)))))))))) (zq (qd (qe (zc 1) (zP (ka Z).up h (zh (zc 0) (zh zx zt))))) zB))
def R3:Fn:=qo 2 V1.1
def Jo:Fn :=  R3
def IZ:Gt 2 "_law_bad_table" 1 Jo:=V1.2
def Ue:Qm 2 "_law_broken" 1 5:=mq (·.T.Fd) λZ n h=>zq (zZ 1 n (qI zx (zP (ka Z).up h (zh (zc 0) (zh zx zt))))) (zq (Yt 2 (N:=["_law_row"]) 1 [] n rfl (cps (by kernel_rfl)) (by kernel_rfl) (j6 (zP (Jr Z).up h (zh (zc 1) zt))) (λ_ _ _=>⟨jh 0 (wu (by kernel_rfl)),wY,wM (G9 Z.B.Q8 (qp (zc 0)))⟩)) (zq (zZ 3 n (zP (ka Z).up h (zh (zc 0) (zh (zc 1) zt)))) (zq (zZ 4 n (gG (qI (qI (zc 3) zx) (zP (ka Z).up h (zh (zc 0) (zh (Z2 (zc 1) zx) zt)))) (zc 1))) (zq (Wb zx (qe (zc 2) (zc 3)) (zc 4)) (zq (Wb zx (qe (zc 2) (zc 4)) (zc 3)) (zq (qd (j9 Z.B.jD (yc (jL [] (j6 (zc 2)) (λ_ _ _=>j9 Z.B.jD (qp (zc 0))))))) zB))))))
def Gn:Fn:=qo 5 Ue.1
def Yl:Fn:=kx Gn
def Fj:Gt 2 "_law_broken" 1 Yl:=Gl Ue.2
def Uc:Qm 2 "_law_bad_mix" 2 5:=mq (·.T.Hs) λZ n h=>zq (zZ 2 n (zP (ka Z).up h (zh (zc 0) (zh (qU Z.B.qT (qp (zc 1))) zt)))) (zq (zZ 3 n (qe (qF (zh jH (zh Qr (zh JD (zh (qG (zh zx zt) (zu zK)) (zh (qF (zh zx zt) (zu zK)) (zh jH zt)))))) (zu (zu (zu (zu (zu (zu zK))))))) (zP (ka Z).up h (zh (zc 0) (zh zx zt))))) (zq (zZ 4 n (qF (zh (qI (qI (gC (zc 1) gK (gF (zc 2))) (qG (zh (zc 3) zt) (zu zK))) (gC (zc 1) (gF (qI (zc 2) zx)) gK)) (zh (qI (zc 1) (qG (zh zx zt) (zu zK))) (zh (gC (zc 1) (gF zx) gK) (zh (G9 Z.B.Q8 (qp (zc 1))) (zh Qr (zh Xl (zh zx zt))))))) (zu (zu (zu (zu (zu (zu (zu zK))))))))) (zq (qd (qe (zc 4) (zP (ka Z).up h (zh (zc 0) (zh zx zt))))) zB)))
def Hk:Fn:=qo 5 Uc.1
def Yi:Fn :=  Hk
def Hr:Gt 2 "_law_bad_mix" 2 Yi:=Uc.2
def Gf:Qm 3 "is_wholes_below" 3 3:=mq (·.T.IX) λZ n h=>zq (qd (ZE (zP (UA Z).up h (zh (zc 0) (zh (zc 1) zt))) (Z3 (YL rfl Z.B.Y9 (yc (jL [2] (j6 (zc 0)) (λ_ _ _=>hW Rk WL zx (zc 0) (zc 1)))))))) zB
def VZ:Fn:=qo 3 Gf.1
def QU:Fn :=  VZ
def IY:Gt 3 "is_wholes_below" 3 QU:=Gf.2
def Um:Qm 3 "kind_shares" 1 3:=mq (·.T.HZ) λZ n h=>zq (zZ 1 n (zP (Pm Z).up h (zh (zc 0) zt))) (zq (Yt 2 (N:=["kind","firsts"]) 1 [1] n rfl (cps (by kernel_rfl)) (by kernel_rfl) (jg rfl Z.B.qY (zP (KN Z).up h (zh (zc 0) zt))) (λ_ _ _=>⟨jh 0 (wu (by kernel_rfl)),wY,wM (DP h (zc 1) (zc 0))⟩)) (zq (qd (gD (JJ (N:=["a","b","table"]) 2 [0] (j6 (zc 2)) (λ_ _ _=>⟨kG 0 1 rfl (wu (by kernel_rfl)),wY,wM (zP (V5 Z).up h (zh (zc 2) (zh (zc 0) (zh (zc 1) zt))))⟩)))) zB))
def HK:Fn:=qo 3 Um.1
def Gs:Fn:=iso HK
def H9:Gt 3 "kind_shares" 1 Gs:=Gi Um.2
def V7:Qm 3 "search_break" 1 9:=mq (·.T.Hj) λZ n h=>zq (jm PassesOwn.never rfl (DO (zP (Pm Z).up h (zh (zc 0) zt))) (D6 1 2 3 rfl n) (zq (zZ 4 n (zP (V5 Z).up h (zh (zc 0) (zh (zc 2) (zh (zc 3) zt))))) (zq (jm PassesOwn.never rfl (YF rfl Z.B.Yq (zc 0)) (kG 5 6 rfl n) (zq (jm PassesOwn.never rfl (YF rfl Z.B.Yq (zc 6)) (kG 7 8 rfl n) (zq (ji (Q0 (Tc (jK (kM h) (zc 8) (zc 1)) (UT (jK (kN h) (zP (V5 Z).up h (zh (zc 0) (zh (zc 5) (zh (zc 7) zt)))) (zc 4))))) (zq (qd (qG (zh (zc 2) (zh (zc 3) (zh (zc 5) (zh (zc 7) zt)))) (zu (zu (zu (zu zK)))))) zB) zB) zB)) zB)) zB))) (zq (qd Qr) zB)
def Pa:Fn:=qo 9 V7.1
def KH:Fn:=iso Pa
def Hz:Gt 3 "search_break" 1 KH:=Gi V7.2
def Gq:Qx 3 "require_mix" 2 2:=⟨_,λZ=>gY Z Z.T.HI λn h x=>zq (ji (Xj (wG (kh (zP (UA Z).up h (zh (zc 1) (zh (zP (KN Z).up h (zh (zc 0) zt)) zt)))))) (zq (GG x (Z.C.exc "NoMix" (by decide +kernel)) (zh JD zt) (zu zK)) zB) zB) zB⟩
def V8:Fn:=wK 2 Gq.1
def Hm (Z:Zz K h mg):jn P w K mg base 3 "require_mix" 2 V8:=Gq.2 Z
def Uj:Qm 3 "count_often" 2 6:=mq (·.T.Fg) λZ n h=>zq (zZ 2 n zx) (zq (zZ 3 n zx) (zq (jm PassesOwn.never rfl (YO rfl Z.B.Y7 (zP (HG Z).up h (zh (zc 0) zt)) (zc 1)) (kG 4 5 rfl n) (zq (zZ 2 n (qI (jz (zc 2) (zc 4)) (jz (jz (zc 5) (zc 5)) (zc 3)))) (zq (zZ 3 n (jz (zc 3) (zc 4))) zB))) (zq (qd (ZZ (jz (qU Z.B.qT (qp (zc 0))) (zc 3)) (zc 2))) zB)))
def HN:Fn:=qo 6 Uj.1
def Pn:Fn:=iso HN
def HH:Gt 3 "count_often" 2 Pn:=Gi Uj.2
def VU:Qm 3 "_law_turned_about" 2 4:=mq (·.T.IH) λZ n h=>zq (zZ 2 n (zP (Jq Z).up h (zh (zc 1) zt))) (zq (zZ 3 n (qI (qF (zh zx zt) (zu zK)) (gD (jL [] (j6 (zP (PM Z).up h (zh (zc 0) (zh (Z2 (zc 2) zx) zt)))) (λ_ _ _=>qI zx (zc 0)))))) (zq (qd (zP (FL Z).up h (zh (zc 1) (zh (zP (PM Z).up h (zh (zc 0) (zh (qU Z.B.qT (qp (zc 1))) zt))) (zh (zc 3) zt))))) zB))
def RU:Fn:=qo 4 VU.1
def W9:Fn:=kx RU
def IF:Gt 3 "_law_turned_about" 2 W9:=Gl VU.2
def Ua:Qm 3 "_law_numbers" 1 5:=mq (·.T.Hi) λZ n h=>zq (zZ 1 n (qF zt zK)) (zq (jm PassesOwn.never rfl (jg rfl Z.B.qY (zP (Jq Z).up h (zh (zc 0) zt))) (jh 2 n) (zq (jm PassesOwn.never rfl (jg rfl Z.B.qY (qU Z.B.qT (qp (zc 0)))) (jh 3 n) (zq (jm PassesOwn.never rfl (jg rfl Z.B.qY (qU Z.B.qT (qp (zc 0)))) (jh 4 n) (zq (ji (Q0 (Tc (jK (kM h) (qU Z.B.qT (qp (zc 1))) (zc 2)) (UT (jK (kM h) (qe (qe (zc 0) (zc 3)) (zc 4)) (zc 2))))) (zq (yq (wW (zc 1) (zP (HW Z).up h (zh (zc 0) (zh (zc 3) (zh (zc 4) zt)))))) zB) zB) zB)) zB)) zB)) (zq (qd (zc 1)) zB))
def Hu:Fn:=qo 5 Ua.1
def R9:Fn :=  Hu
def Pb:Gt 3 "_law_numbers" 1 R9:=Ua.2
def Uq:Qm 3 "_law_often" 2 7:=mq (·.T.FC) λZ n h=>zq (zZ 2 n (zP (Pw Z).up h (zh (zc 0) zt))) (zq (Wd (qG (zh zx (zh zx zt)) (zu (zu zK))) (kG 3 4 rfl n)) (zq (jm PassesOwn.never rfl (YO rfl Z.B.Y7 (zc 2) (zc 1)) (kG 5 6 rfl n) (zq (zZ 3 n (qI (jz (zc 3) (zc 5)) (jz (jz (zc 6) (zc 6)) (zc 4)))) (zq (zZ 4 n (jz (zc 4) (zc 5))) zB))) (zq (qd (ZZ (jz (qU Z.B.qT (qp (zc 0))) (zc 4)) (zc 3))) zB)))
def Fs:Fn:=qo 7 Uq.1
def Ym:Fn:=iso Fs
def FV:Gt 3 "_law_often" 2 Ym:=Gi Uq.2
def KR:Qm 4 "is_table" 1 2:=mq (·.T.EV) λZ n h=>zq (ji (Q0 (Wl (wG (kh (gJ .tup Z.B.jy Z.B.jD (by rfl) (zc 0)))) (K6 (wG (h9 Rk Rk zx (qU Z.B.qT (qp (zc 0))) (CF rfl Z.B.HV.choose_spec)))))) (zq (qd jH) zB) zB) (zq (zZ 1 n (qU Z.B.qT (qp (zc 0)))) (zq (ji (wG (kh (YL rfl Z.B.Y9 (yc (jL [1] (j6 (zc 0)) (λ_ _ _=>zP (IY Z).up h (zh (zc 0) (zh (zc 1) (zh (zc 1) zt))))))))) (zq (qd jH) zB) zB) (zq (qd (ZE (zP (D5 Z).up h (zh (zc 0) zt)) (Z3 (zP (ID Z).up h (zh (zc 0) zt))))) zB)))
def GJ:Fn:=qo 2 KR.1
def gA:Fn :=  GJ
def ES:Gt 4 "is_table" 1 gA:=KR.2
def KD:Qm 4 "is_weights_tuple" 2 2:=mq (·.T.IL) λZ n h=>zq (ji (wG (kh (zP (UA Z).up h (zh (zc 1) (zh (zP (KN Z).up h (zh (zc 0) zt)) zt))))) (zq (qd jH) zB) zB) (zq (qd (ZE (w6 (kM h) (qe (zc 1) zx) zx) (Z3 (zP (kr Z).up h (zh (zP (H9 Z).up h (zh (zc 0) zt)) (zh (zc 1) zt)))))) zB)
def IP:Fn:=qo 2 KD.1
def VV:Fn :=  IP
def IK:Gt 4 "is_weights_tuple" 2 VV:=KD.2
def Uk:Qm 4 "_law_steady" 1 5:=mq (·.T.Fc) λZ n h=>zq (zZ 1 n (zP (ka Z).up h (zh (zc 0) (zh zx zt)))) (zq (ji (jK (kM h) (zc 1) zx) (zq (zZ 2 n (zP (Jr Z).up h (zh (qI zx (zP (ka Z).up h (zh (zc 0) (zh zx zt)))) zt))) zB) (zq (ji (jK WL (zc 1) zx) (zq (zZ 2 n (zP (PY Z).up h (zh (qI zx (zP (ka Z).up h (zh (zc 0) (zh zx zt)))) zt))) zB) (zq (ji (jK (kM h) (zc 1) zx) (zq (Wd (qe (qF (zh (qG (zh zx (zh zx zt)) (zu (zu zK))) (zh (qG (zh zx (zh zx zt)) (zu (zu zK))) (zh (qG (zh zx (zh zx zt)) (zu (zu zK))) (zh (qG (zh zx (zh zx zt)) (zu (zu zK))) (zh (qG (zh zx (zh zx zt)) (zu (zu zK))) (zh (qG (zh zx (zh zx zt)) (zu (zu zK))) (zh (qG (zh zx (zh zx zt)) (zu (zu zK))) zt))))))) (zu (zu (zu (zu (zu (zu (zu zK)))))))) (zP (ka Z).up h (zh (zc 0) (zh zx zt)))) (kG 3 4 rfl n)) (zq (zZ 2 n (zP (Ff Z).up h (zh (zc 3) (zh (zc 4) zt)))) zB)) (zq (ji (jK WL (zc 1) zx) (zq (zZ 2 n (zP (HL Z).up h (zh (qI zx (zP (ka Z).up h (zh (zc 0) (zh zx zt)))) zt))) zB) (zq (ji (jK (kM h) (zc 1) zx) (zq (zZ 2 n (zP (R7 Z).up h (zh (qI zx (zP (ka Z).up h (zh (zc 0) (zh zx zt)))) zt))) zB) (zq (ji (jK (kM h) (zc 1) zx) (zq (zZ 2 n (zP (FA Z).up h (zh zx zt))) zB) (zq (ji (jK WL (zc 1) zx) (zq (zZ 2 n (zP (HU Z).up h (zh (zP (Jr Z).up h (zh zx zt)) (zh (zP (PX Z).up h (zh (zc 0) zt)) zt)) (zu (zu zK)))) zB) (zq (zZ 2 n (zP (HP Z).up h (zh (zP (Jr Z).up h (zh zx zt)) (zh (zP (PX Z).up h (zh (zc 0) zt)) zt)) (zu (zu zK)))) zB)) zB)) zB)) zB)) zB)) zB)) zB)) (zq (qd (zP (IF Z).up h (zh (zc 0) (zh (zc 2) zt)))) zB))
def HF:Fn:=qo 5 Uk.1
def Jp:Fn:=kx HF
def Fe:Gt 4 "_law_steady" 1 Jp:=Gl Uk.2
def VW:Qm 4 "_law_are_weights" 2 6:=mq (·.T.IM) λZ n h=>zq (zZ 2 n (zP (Pb Z).up h (zh (zc 0) zt))) (zq (ji (Q0 (Wl (wG (kh (gJ .tup Z.B.jy Z.B.jD (by rfl) (zc 1)))) (K6 (jK (kN h) (qU Z.B.qT (qp (zc 1))) (qU Z.B.qT (qp (zc 2))))))) (zq (qd jH) zB) zB) (zq (ji (Q0 (Wl (wG (kh (YL rfl Z.B.Y9 (yc (jL [] (j6 (zc 1)) (λ_ _ _=>zP (FU Z).up h (zh (zc 0) zt))))))) (K6 (jK (kN h) (qe (zc 1) zx) zx)))) (zq (qd jH) zB) zB) (zq (jm PassesOwn.never rfl (jg rfl Z.B.qY (qU Z.B.qT (qp (zc 1)))) (jh 3 n) (zq (jm PassesOwn.never rfl (jg rfl Z.B.qY (qU Z.B.qT (qp (zc 1)))) (jh 4 n) (zq (zZ 5 n (Xo rfl Z.B.Vc (yc (jL [1,2,3,4] (jg rfl Z.B.qY (qU Z.B.qT (qp (zc 1)))) (λ_ _ _=>jz (qe (qe (qe (zc 2) (zc 0)) (zc 3)) (zc 4)) (qe (zc 1) (zc 0))))))) (zq (ji (jK (kN h) (jz (qe (zc 1) (zc 3)) (qe (zc 1) (zc 4))) (zc 5)) (zq (qd jH) zB) zB) zB))) zB)) (zq (qd jH) zB))))
def RZ:Fn:=qo 6 VW.1
def Zc:Fn :=  RZ
def RY:Gt 4 "_law_are_weights" 2 Zc:=VW.2
def Ft (Z:Zz K h mg):qK P w K mg base 1 "_law_same" 2 PN:=by obtain⟨f,d,F,a⟩:=Z.T.GC;exact(GB (k:=0) Z.B F (mg_of Z.X Z.G a) (iF (ps:=["_law_found","_law_due"]) F (mg_of Z.X Z.G a) (λ_ _ _ _ _ _=>Ks λ_ _=>rfl)))
def F5 (Z:Zz K h mg):qK P w K mg base 2 "_law_same" 2 PV:=by obtain⟨f,d,F,a⟩:=Z.T.GC;exact(GB (k:=1) Z.B F (mg_of Z.X Z.G a) (Ft Z))
def Fu (Z:Zz K h mg):qK P w K mg base 3 "_law_same" 2 PL:=by obtain⟨f,d,F,a⟩:=Z.T.GC;exact(GB (k:=2) Z.B F (mg_of Z.X Z.G a) (F5 Z))
def El (Z:Zz K h mg):qK P w K mg base 4 "_law_same" 2 ZV:=by obtain⟨f,d,F,a⟩:=Z.T.GC;exact(GB (k:=3) Z.B F (mg_of Z.X Z.G a) (Fu Z))
def Gh:Qx 5 "require_table" 1 1:=⟨_,λZ=>gY Z Z.T.Hg λn h x=>zq (ji (Xj (wG (kh (zP (ES Z).up h (zh (zc 0) zt))))) (zq (GG x (Z.C.exc "NoTable" (by decide +kernel)) (zh JD zt) (zu zK)) zB) zB) zB⟩
def V0:Fn:=wK 1 Gh.1
def Hc (Z:Zz K h mg):jn P w K mg base 5 "require_table" 1 V0:=Gh.2 Z
def Ge:Qx 5 "require_weights" 2 2:=⟨_,λZ=>gY Z Z.T.IV λn h x=>zq (ji (Xj (wG (kh (zP (IK Z).up h (zh (zc 0) (zh (zc 1) zt)))))) (zq (GG x (Z.C.exc "NoWeights" (by decide +kernel)) (zh JD zt) (zu zK)) zB) zB) zB⟩
def VY:Fn:=wK 2 Ge.1
def RW (Z:Zz K h mg):jn P w K mg base 5 "require_weights" 2 VY:=Ge.2 Z
def VX:Qm 5 "_law_all_weights" 1 11:=mq (·.T.IS) λZ n h=>zq (Wd (qG (zh (zP (Pb Z).up h (zh (zc 0) zt)) (zh (zP (Pw Z).up h (zh (zc 0) zt)) zt)) (zu (zu zK))) (kG 1 2 rfl n)) (zq (zZ 3 n (qF (zh (qG (zh zx zt) (zu zK)) zt) (zu zK))) (zq (jm PassesOwn.never rfl (G3 rfl Z.B.qY zx (qU Z.B.qT (qp (zc 2)))) (jh 4 n) (zq (zZ 5 n (qF zt zK)) (zq (jm PassesOwn.never rfl (j6 (zc 3)) (jh 6 n) (zq (yq (Oc (zc 5) (gD (jL [6] (G3 rfl Z.B.qY (Z2 zx (qe (zc 2) (zc 4))) (qI (qe (zc 2) (zc 4)) zx)) (λ_ _ _=>qI (zc 1) (qG (zh (zc 0) zt) (zu zK))))))) zB)) (zq (zZ 3 n (qF zt zK)) (zq (jm PassesOwn.never rfl (j6 (zc 5)) (jh 6 n) (zq (zZ 7 n jH) (zq (jm PassesOwn.never rfl (jg rfl Z.B.qY (qI (zc 4) zx)) (jh 8 n) (zq (Yt 9 (N:=["_law_k","_law_numbers_here","_law_kind","_law_i"]) 1 [1,4,8] n rfl (cps (by kernel_rfl)) (by kernel_rfl) (G3 rfl Z.B.qY (qI (zc 4) zx) (qU Z.B.qT (qp (zc 2)))) (λ_ _ _=>⟨jh 0 (wu (by kernel_rfl)),wY,wM (qe (qe (qe (zc 1) (zc 0)) (zc 3)) (zc 2))⟩)) (zq (ji (jK (kM h) (YK rfl Z.B.JN (qp (qI (zc 9) (qF (zh zx zt) (zu zK))))) zx) (zq (zZ 10 n (Xo rfl Z.B.Vc (yc (jL [1,4,6,8] (jg rfl Z.B.qY (qI (zc 4) zx)) (λ_ _ _=>jz (qe (qe (qe (zc 1) (zc 0)) (zc 4)) (zc 2)) (qe (zc 3) (zc 0))))))) (zq (zZ 7 n (ZE (zc 7) (Z3 (w6 (kM h) (jz (qe (zc 6) (zc 8)) (qe (zc 6) (zc 4))) (zc 10))))) zB)) zB) zB))) (zq (ji (kh (zc 7)) (zq (yq (wW (zc 3) (zc 6))) zB) zB) zB)))) zB))))) (zq (qd (Bw (DV rfl Z.B.BW (gD (JJ (N:=["_law_row","_law_table"]) 1 [0] (j6 (zc 3)) (λ_ _ _=>⟨jh 0 (wu (by kernel_rfl)),Nl (kh (zP (RY Z).up h (zh (zc 1) (zh (zc 0) zt)))),wM (zc 0)⟩)))) (Td zx))) zB)))
def RX:Fn:=qo 11 VX.1
def Qo:Fn:=iso RX
def IT:Gt 5 "_law_all_weights" 1 Qo:=Gi VX.2
def KG:Qx 6 "require_steady" 1 1:=⟨_,λZ=>gY Z Z.T.Hd λn h x=>zq (yq (ZD x (Hc Z).up h (zh (zc 0) zt))) (zq (ji (Xj (jK fF (zP (Hz Z).up h (zh (zc 0) zt)) Qr)) (zq (GG x (Z.C.exc "NotSteady" (by decide +kernel)) (zh JD zt) (zu zK)) zB) zB) zB)⟩
def ZU:Fn:=wK 1 KG.1
def R0 (Z:Zz K h mg):jn P w K mg base 6 "require_steady" 1 ZU:=KG.2 Z
def KO:Qx 7 "how_often" 2 2:=⟨_,λZ=>gY Z Z.T.Ef λn h x=>zq (yq (ZD x (R0 Z).up h (zh (zc 0) zt))) (zq (yq (ZD x (RW Z).up h (zh (zc 0) (zh (zc 1) zt)))) (OZ (zq (qd (zP (HH Z).up h (zh (zc 0) (zh (zc 1) zt)))) zB)))⟩
def wV:Fn:=wK 2 KO.1
def Yu:Fn:=iso (λa A=>(wV a A).nox)
def Ur (Z:Zz K h mg):jn P w K mg base 7 "how_often" 2 wV:=KO.2 Z
def Ey (Z:Zz K h mg):qK P w K mg base 7 "how_often" 2 Yu:=(Ur Z).m.iso
def Yv:Qx 7 "worth_by" 3 3:=⟨_,λZ=>gY Z Z.T.EO λn h x=>zq (yq (ZD x (R0 Z).up h (zh (zc 0) zt))) (zq (yq (ZD x (RW Z).up h (zh (zc 0) (zh (zc 1) zt)))) (zq (yq (ZD x (Hm Z).up h (zh (zc 0) (zh (zc 2) zt)))) (OZ (zq (qd (zP (AG Z).up h (zh (zc 1) (zh (zc 2) zt)))) zB))))⟩
def wF:Fn:=wK 3 Yv.1
def Yx:Fn:=iso (λa A=>(wF a A).nox)
def UB (Z:Zz K h mg):jn P w K mg base 7 "worth_by" 3 wF:=Yv.2 Z
def EX (Z:Zz K h mg):qK P w K mg base 7 "worth_by" 3 Yx:=(UB Z).m.iso
end
end G
namespace Mi
open PySem L2
noncomputable abbrev iV (n:Int):Option W:=some (.int n)
noncomputable abbrev rO (n:Nat):Option W:=some (.ref n)
section
variable {m:Ev}
def Q2 (h:m ρ A=.ok (.tup ws) A1):q9 m ρ A=.ok ⟨λA i=>(zW (.tup ws) A).map λws=>ws[i]?,ws.length⟩ A1:=by
 unfold q9 WM;rw[h,zJ]
 rfl
def YI (h:m ρ A=.ok (.tup ws) A)(l:ws.length<=zX){g:W->W}(a:∀w∈ws,me (some w::cap.map λi=>(ρ[i]?).join) A=.ok (g w) A):
  qD 1 cap (q9 m) (zQ 0) (zT (.bl true)) (qw me) ρ A=.ok (ws.map g) A:=by
 have e:=gB (cap:=cap) (me:=me) (ρ:=ρ) (A:=A) (N:=ws.length) (item:=λi=>ws.getD i .non) (g:=λi=>g (ws.getD i .non)) (Q2 h) rfl l
  (λi H=>by show some ws[i]? =_;rw[ae H,aa,ae H];rfl)
  (by show some ws[ws.length]? =_;rw[aD (aq _)])
  (λi H=>by
   have:ws.getD i .non=ws[i]:=by rw[aa,ae H];rfl
   rw[this];exact a _ (aJ H))
 rw[e]
 congr 1
 apply a8
 ·simp
 ·intro i c b
  have H:i<ws.length:=by simpa using b
  simp[aa,ae H]
theorem GS (p:α->Bool):∀l:List α,gH (l.map λx=>W.bl (p x))=some (l.map p)
 |[]=>rfl|x::l=>by
  show(match Kk (.bl (p x)),gH (l.map λx=>W.bl (p x)) with|some k,some K=>some (k::K)|_,_=>none)=_
  rw[GS p l];rfl
def Xu {p:α->Bool}{l:List α}(h:∀x∈l,p x=true):Kh (l.map λx=>W.bl (p x)) A=.ok (.bl true) A:=by
 show Zk (λK=>K.all id) _ A=_;unfold Zk;rw[GS];dsimp only
 have:(l.map p).all id=true:=by rw[all_map];exact cw.mpr λx H=>h x H
 rw[this]
theorem Q4 {f:α->W}(h:∀x,(f x).nr=true):∀l:List α,qR (l.map f)=true
 |[]=>rfl|x::l=>by show((f x).nr&&qR (l.map f))=true;rw[h x,Q4 h l];rfl
def wU (i j:Int)(A:Hx):jQ (.int i) (.int j) A=.ok (.bl (decide (i=j))) A:=by
 show R.ok (W.bl (PyData.eqv (.int i) (.int j))) A=_;simp[PyData.eqv]
 rfl
def WZ (i j:Int)(A:Hx):ju (.int i) (.int j) A=.ok (.bl (!decide (i=j))) A:=by
 show R.ok (W.bl (!PyData.eqv (.int i) (.int j))) A=_;simp[PyData.eqv]
 rfl
def kB (i j:Bool)(A:Hx):ju (.bl i) (.bl j) A=.ok (.bl (!(i==j))) A:=by cases i<;>cases j<;>rfl
end
noncomputable def zo (r:bP):W:=.tup (r.map W.int)
def zp (t:bN):W:=.tup (t.map zo)
def Z4 (r:bP):(zo r).nr=true:=by show qR (r.map W.int)=true;exact Q4 (λ_=>rfl) r
def Ze (t:bN):(zp t).nr=true:=by show qR (t.map zo)=true;exact Q4 Z4 t
def OE {st:W->Ex}{N:Nat}{item:Nat->W}{I:En->Prop}(t:∀i,i<N->j.at_ A i=some (some (item i)))(H:j.at_ A N=some none)
  (e:∀i,i<N->∀o,I o->∃a,st (item i) o A=.ok (.nx a) A/\I a):∀(n i:Nat)(o:En),i+n=N->I o->∃a,yb j st n i o A=.ok (.nx a) A/\I a:=by
 intro n
 induction n with
 |zero=>
  intro i o h c
  have:i=N:=by lia
  subst this;exact⟨o,UD H,c⟩
 |succ n d=>
  intro i o h c;obtain⟨p,f,l⟩:=e i (by lia) o c
  obtain⟨b,E,g⟩:=d (i+1) p (by lia) l
  exact⟨b,(Xa (t i (by lia)) f).trans E,g⟩
def YA {m:Ev}(h:m ρ A=.ok (.tup ws) A1):Jd m ρ A=.ok (kR (.tup ws) ws.length) A1:=by
 unfold Jd;rw[h,zJ]
 rfl
def Ka {w:W}(h:ws[i]? =some w):(kR (.tup ws) ws.length).at_ A i=some (some (.tup [.int i,w])):=by show atEnd ws i _=_;unfold atEnd;rw[h]
def YY:(kR (.tup ws) ws.length).at_ A ws.length=some none:=by show atEnd ws _ _=_;unfold atEnd;rw[aD (aq _)];exact ai rfl
noncomputable def at2 (t:bN)(a b:Nat):Int:=(t.getD a []).getD b 0
structure qi (t:bN):Prop where
 n1:1<=t.length
 n8:t.length<=8
 sq:∀r∈t,r.length=t.length
 lo:∀r∈t,∀v∈r,0<=v/\v<(t.length:Int)
 dg:∀a b,a<t.length->b<t.length->(at2 t a b=0↔a=b)
 sy:∀a b,a<t.length->b<t.length->at2 t a b=at2 t b a
 fu:∀k:Nat,(∃v∈t.flatten,(k:Int)<v)->(k:Int)∈t.flatten
section
variable {a b:Nat}
def Wn (h:a<t.length):(t.map zo)[a]? =some (zo (t.getD a [])):=by rw[ax,aa,ae h];rfl
def ki (h:a<t.length):t.getD a []∈t:=by rw[aa,ae h];exact aJ h
def JE (h:a<t.length):zH (zp t) (.int a) A=.ok (zo (t.getD a [])) A:=by
 unfold zH;show(match gq (t.map zo) (a:Int) with|some w=>R.ok w A|none=>R.bad)=_
 rw[Xv (Wn h)]
def int_at {r:bP}(h:b<r.length):(r.map W.int)[b]? =iV (r.getD b 0):=by rw[ax,aa,ae h];rfl
def wj {r:bP}(h:b<r.length:=by lia):zH (zo r) (.int b) A=.ok (.int (r.getD b 0)) A:=by
 unfold zH;show(match gq (r.map W.int) (b:Int) with|some w=>R.ok w A|none=>R.bad)=_
 rw[Xv (v:=.int (r.getD b 0)) (by rw[ax,aa,ae h];rfl)]
end
section
def Bh {c:Option W}(b:∀i,i<ws.length->j.at_ A i=some (some (ws.getD i .non)))(H:j.at_ A ws.length=some none)(n:∀w,me [c,some w] A=.ok w A):
  ∀(f i:Nat)(x:Option W)(g:List W),i+f=ws.length->g.length+f<=zX->∃y,qZ j (zQ 1) (zT (.bl true)) (qw me) f i [c,x] g A=.ok ([c,y],g++ws.drop i) A:=by
 intro f
 induction f with
 |zero=>
  intro i x g h l
  have:i=ws.length:=by lia
  subst this;refine⟨x,?_⟩;unfold qZ;rw[H,drop_length,a5]
 |succ f I=>
  intro i x g h l;have a:i<ws.length:=by lia
  have E:ws.getD i .non=ws[i]:=by rw[aa,ae a];rfl
  obtain⟨y,e⟩:=I (i+1) (some ws[i]) (g++[ws[i]]) (by lia) (by rw[aw,aX];lia)
  refine⟨y,?_⟩;rw[qZ,b i a,E];dsimp only[zQ,List.set,zT];rw[zJ];dsimp only;have d:qw me [c,some ws[i]] g A=.ok ([c,some ws[i]],g++[ws[i]]) A:=by unfold qw;rw[n,zJ,ai (by lia)]
  rw[d,zJ];rw[e,aP]
  congr 3
  rw[List.singleton_append,<- List.drop_eq_getElem_cons a]
def Cs (d:∀i,i<t.length->j.at_ A i=some (some (zo (t.getD i []))))(H:j.at_ A t.length=some none):
  ∀(f i:Nat)(x y:Option W)(o:List W),i+f=t.length->o.length+(t.drop i).flatten.length<=zX->
   ∃ρ,qZ j (zQ 0) (zT (.bl true)) (Wx (q9 (zU 0)) (zQ 1) (zT (.bl true)) (qw (zU 1))) f i [x,y] o A=.ok (ρ,o++(t.drop i).flatten.map W.int) A:=by
 intro f
 induction f with
 |zero=>
  intro i x y o h l
  have:i=t.length:=by lia
  subst this;refine⟨[x,y],?_⟩;unfold qZ;rw[H,drop_length];simp
 |succ f I=>
  intro i x y o h l;have a:i<t.length:=by lia
  have r:t.getD i []=t[i]:=by rw[aa,ae a];rfl
  have e:t.drop i=t[i]::t.drop (i+1):=List.drop_eq_getElem_cons a;rw[e,a7,aw]at l;obtain⟨z,E⟩:=Bh (A:=A) (j:=⟨λA i_1=>(zW (zo t[i]) A).map λp=>p[i_1]?,(t[i].map W.int).length⟩) (me:=zU 1) (ws:=t[i].map W.int) (c:=some (zo t[i]))
   (λk b=>by show some (t[i].map W.int)[k]? =_;rw[aa,ae b];rfl)
   (by show some (t[i].map W.int)[(t[i].map W.int).length]? =_;rw[aD (aq _)])
   (λw=>zi rfl) (t[i].map W.int).length 0 y o (by lia) (by rw[ag];lia)
  rw[List.drop_zero]at E;obtain⟨ρ,n⟩:=I (i+1) (some (zo t[i])) z (o++t[i].map W.int) (by lia) (by rw[aw,ag];lia)
  refine⟨ρ,?_⟩;rw[qZ,d i a,r];dsimp only[zQ,List.set,zT];rw[zJ];dsimp only;have g:Wx (q9 (zU 0)) (zQ 1) (zT (.bl true)) (qw (zU 1)) [some (zo t[i]),y] o A=.ok ([some (zo t[i]),z],o++t[i].map W.int) A:=by unfold Wx;rw[Q2 (ws:=t[i].map W.int) (A1:=A) (zi (i:=0) rfl),zJ];exact E
  rw[g,zJ];rw[n,e,a7,aN,aP]
def k4 {m:Ev}(h:m ρ A=.ok (zp t) A)(H:t.flatten.length<=zX):
  qD 2 [] (q9 m) (zQ 0) (zT (.bl true)) (Wx (q9 (zU 0)) (zQ 1) (zT (.bl true)) (qw (zU 1))) ρ A=.ok (t.flatten.map W.int) A:=by
 have n:(t.map zo).length=t.length:=ag ..;obtain⟨a,e⟩:=Cs (t:=t) (A:=A) (j:=⟨λA i=>(zW (zp t) A).map λc=>c[i]?,(t.map zo).length⟩) (λi b=>by show some (t.map zo)[i]? =_;rw[Wn b])
  (by show some (t.map zo)[t.length]? =_;rw[aD (by lia)]) t.length 0 none none [] (by lia) (by simpa using H)
 unfold qD;rw[Q2 (ws:=t.map zo) h,zJ];show R.bind (R.nox (qZ ⟨λA i=>(zW (zp t) A).map λc=>c[i]?,(t.map zo).length⟩ _ _ _ (t.map zo).length 0 [none,none] [] A)) _=_;rw[n]at e ⊢;rw[e];simp
 rfl
end
theorem KP:∀l:bP,intsOf (l.map W.int)=some l
 |[]=>rfl|i::l=>by
  show(match intsOf (l.map W.int) with|some I=>some (i::I)|none=>none)=_
  rw[KP l]
theorem UW:∀(l:bP)(m:Int),yk l m=m∨yk l m∈l
 |[],_=>.inl rfl|i::l,m=>by
  show yk l (if i > m then i else m)=m∨yk l (if i > m then i else m)∈i::l;rcases UW l (if i > m then i else m) with e|e
  ·by_cases h:i > m
   ·rw[ai h]at e ⊢;exact .inr (by rw[e];exact aF ..)
   ·rw[aj h]at e ⊢;exact .inl e
  ·exact .inr (az _ e)
end Mi
namespace G
open PySem L2 Mi
def BD (h:qi t):t.flatten.length<=64:=by
 have:∀l:bN,(∀r∈l,r.length<=8)->l.flatten.length<=8 * l.length:=by
  intro l
  induction l with
  |nil=>intro _;simp|cons r l i=>
   intro H;have e:=H r (aF ..);have d:=i λb a=>H b (az _ a);rw[a7,aw,a6];lia
 have c:=h.n8
 have:=this t λr H=>by rw[h.sq r H];exact h.n8
 lia
noncomputable abbrev iO (n:Nat):Option W:=some (.int (n:Int))
noncomputable abbrev bO (b:Bool):Option W:=some (.bl b)
section
def k6 (h:ρ[i]? =some (some (zp t))):mQ qu (qa (zU i)) ρ A=.ok (.int t.length) A:=by rw[j0 (yL (w:=zp t) (A1:=A) (zi h) rfl)];unfold qu;rw[ag]
def ZY (h:n<1000000):jG (n:Int)=true:=by unfold jG;simp;lia
end
def Jz {m:Ev}(h:m ρ A=.ok (.ref n) A1)(H:A1[n]? =some (.lst ws)):q9 m ρ A=.ok ⟨λA i=>(zW (.ref n) A).map λws=>ws[i]?,ws.length⟩ A1:=by
 unfold q9 WM;rw[h,zJ];have e:zW (.ref n) A1=some ws:=by unfold zW;dsimp only;rw[H]
 rw[e]
def wZ (h:A[n]? =some (.lst ws)):((zW (.ref n) A).map λws=>ws[i]?)=some ws[i]?:=by
 have e:zW (.ref n) A=some ws:=by unfold zW;dsimp only;rw[h]
 rw[e];rfl
def kz:List Int->Int
 |[]=>0|i::is=>yk is i
def Tj {r:bP}(h:r≠[]):gh (r.map W.int) A=.ok (.int (kz r)) A:=by
 unfold gh;rw[KP];cases r with|nil=>exact absurd rfl h|cons i I=>rfl
def G1 {r:bP}(h:r≠[]):kz r∈r:=by
 cases r with
 |nil=>exact absurd rfl h|cons i I=>
  rcases UW I i with e|e
  ·show yk I i∈_;rw[e];exact aF ..
  ·exact az _ e
def qf (t:bN):Int:=kz (t.map kz)+1
section
def _root_.Mi.qi.row_ne (h:qi t){r:bP}(H:r∈t):r≠[]:=λe=>by have a:=h.sq r H;have b:=h.n1;rw[e,List.length_nil]at a;lia
def _root_.Mi.qi.map_ne (h:qi t):t.map kz≠[]:=λe=>by
 have:=h.n1
 rw[List.map_eq_nil_iff]at e;rw[e]at this;simp at this
def km (h:qi t):1<=qf t/\qf t<=8:=by
 obtain⟨r,H,e⟩:=cu.mp (G1 h.map_ne)
 have:=h.lo r H _ (G1 (h.row_ne H))
 have:=h.n8
 unfold qf;rw[<- e];lia
def Y5 (h:qi t){a b:Nat}(H:a<t.length)(d:b<t.length):0<=at2 t a b/\at2 t a b<8:=by
 have c:=h.sq _ (ki H)
 have:(t.getD a []).getD b 0∈t.getD a []:=by rw[aa (l:=t.getD a []),ae (by lia)];exact aJ _
 have e:=h.lo _ (ki H) _ this
 have:=h.n8
 unfold at2;lia
def Wh (h:q ρ A=.ok ws A1):mQ gT q ρ A=.ok (.tup ws) A1:=(j0 h).trans rfl
end
end G
namespace Mi
open PySem L2
def wH {w:W}{s:Nat}(h:A[n]? =some (.lst ws))(H:ws[s]? =some w):zH (.ref n) (.int s) A=.ok w A:=by
 unfold zH;have e:zW (.ref n) A=some ws:=by unfold zW;dsimp only;rw[h]
 rw[e];dsimp only;rw[Xv H]
def jx {o u:O}(h:A[n]? =some o):(A++[u])[n]? =some o:=by
 have:=(cm.mp h).1
 rw[ah this];exact h
def qN {u:O}:(A++[u])[A.length]? =some u:=by simp
noncomputable def J6 (c:Nat->Nat->Int)(a b:Nat)(k:Int):Nat->Nat->Int:=λi j=>if i=a/\j=b then k else c i j
structure Mu (n:Nat)(μ:Nat->Nat->Int)(c:Nat)(done:Nat->Nat->Prop):Prop where
 dg:∀i,μ i i=0
 sy:∀i j,μ i j=μ j i
 dn:∀i j,i<j->j<n->done i j->1<=μ i j/\μ i j<=(c:Int)
 un:∀i j,i<j->j<n->¬done i j->μ i j=0
 fu:∀k:Nat,1<=k->k<=c->∃i j,i<n/\j<n/\μ i j=(k:Int)
noncomputable def jV (n:Nat)(a:Nat->Nat->Int):bN:=(List.range n).map λi=>(List.range n).map (a i)
def Wc {a:Nat->Nat->Int}{j:Nat}(H:i<n)(h:j<n):at2 (jV n a) i j=a i j:=by
 unfold at2 jV;rw[aa (l:=(List.range n).map λi=>(List.range n).map (a i)),ax,aU H];show((List.range n).map (a i)).getD j 0=_;rw[aa,ax,aU h]
 rfl
def Mu.tab {c:Nat}{D:Nat->Nat->Int}{d:Nat->Nat->Prop}(h:Mu n D c d)(all:∀i j,i<j->j<n->d i j)(K:1<=n)(E:n<=8)(C:n=1∨c<n):qi (jV n D):=by
 have len:(jV n D).length=n:=by unfold jV;simp
 have val:∀i j,i<n->j<n->i≠j->1<=D i j/\D i j<=(c:Int):=λi j H f N=>by
  rcases Nat.lt_or_gt_of_ne N with q|q
  ·exact h.dn i j q f (all i j q f)
  ·rw[h.sy];exact h.dn j i q H (all j i q H)
 have mem:∀r∈jV n D,∀v∈r,∃i j,i<n/\j<n/\v=D i j:=λr g v p=>by unfold jV at g;obtain⟨i,H,rfl⟩:=cu.mp g;obtain⟨j,f,rfl⟩:=cu.mp p;exact⟨i,j,cj.mp H,cj.mp f,rfl⟩
 have I:∀i j,i<n->j<n->D i j∈(jV n D).flatten:=λi j H f=>List.mem_flatten.mpr ⟨_,cu.mpr ⟨i,cj.mpr H,rfl⟩,cu.mpr ⟨j,cj.mpr f,rfl⟩⟩;refine⟨by rw[len];exact K,by rw[len];exact E,λr g=>?_,λr g v p=>?_,λa b o l=>?_,λa b o l=>?_,λk B=>?_⟩
 ·rw[len]
  unfold jV at g;obtain⟨i,H,rfl⟩:=cu.mp g;simp
 ·rw[len]
  obtain⟨i,j,H,f,rfl⟩:=mem r g v p
  by_cases q:i=j
  ·subst q;rw[h.dg];lia
  ·have:=val i j H f q
   lia
 ·rw[len]at o l
  rw[Wc o l]
  constructor
  ·intro e
   by_cases q:a=b
   ·exact q
   ·have:=val a b o l q;lia
  ·intro e;subst e;exact h.dg a
 ·rw[len]at o l
  rw[Wc o l,Wc l o];exact h.sy a b
 ·obtain⟨v,p,u⟩:=B
  obtain⟨r,g,t⟩:=List.mem_flatten.mp p;obtain⟨i,j,H,f,rfl⟩:=mem r g v t
  by_cases L:k=0
  ·subst L
   have:=I 0 0 (by lia) (by lia)
   rw[h.dg]at this;exact this
  ·by_cases q:i=j
   ·subst q;rw[h.dg]at u;lia
   ·have:=val i j H f q
    obtain⟨A,J,y,x,e⟩:=h.fu k (by lia) (by lia)
    have:=I A J y x
    rw[e]at this;exact this
end Mi
namespace G
open PySem L2 Mi
def yN {i j:Int}(H:-(2 ^ 64)<i:=by lia)(h:i<2 ^ 64:=by lia):qE (.int i) (.int j) A=.ok (.int (i * j)) A:=by unfold qE;dsimp only;rw[ai];unfold Kl;rw[a3,ak,ao,ao];exact .inl ⟨H,h⟩
def JG {i j:Int}(h:0<j):Y4 (.int i) (.int j) A=.ok (.int (i%j)) A:=by unfold Y4 ZO;dsimp only;rw[ai];unfold Vg;exact ay h
def Xw {i j:Int}(h:0<j)(H:j<1152921504606846976):X8 (.int i) (.int j) A=.ok (.int (i/j)) A:=by unfold X8 ZO;dsimp only;rw[ai];unfold X9;rw[ak,ao,ao];exact⟨h,H⟩
def k7 {c m:Int}(h:0<m)(H:m<1000000000000000):QX [.ref 0,.int m] [.lst [.int c,.bl true]]=.ok (.int (c%m)) [.lst [.int (c/m),.bl true]]:=by
 refine qM ?_;dsimp only[GD,mq];refine qh (A1:=[.lst [.int (c/m),.bl true]]) ?_;refine(yC (A1:=[.lst [.int c,.bl true]]) rfl).trans ?_;refine(zA (ρ1:=[rO 0,iV m,iV (c%m),none]) (A1:=[.lst [.int c,.bl true]]) ?_).trans ?_
 ·refine(qj (w:=.int (c%m)) (A1:=[.lst [.int c,.bl true]]) ?_).trans rfl
  exact(zE (x:=.int c) (y:=.int m) (A1:=[.lst [.int c,.bl true]]) (A2:=[.lst [.int c,.bl true]]) rfl rfl).trans (JG h)
 ·refine(zA (ρ1:=[rO 0,iV m,iV (c%m),none]) (A1:=[.lst [.int (c/m),.bl true]]) ?_).trans rfl
  have e:zm X8 (zm zH zI qB) zD [rO 0,iV m,iV (c%m),none] [.lst [.int c,.bl true]]=.ok (.int (c/m)) [.lst [.int c,.bl true]]:=
   (zE (x:=.int c) (y:=.int m) (A1:=[.lst [.int c,.bl true]]) (A2:=[.lst [.int c,.bl true]]) rfl rfl).trans (Xw h (by lia))
  unfold Q9;rw[e,zJ]
  rfl
noncomputable def Jl (c:Int):Int:=(c * 48271+29)%2147483647
noncomputable def Zt (d:Int):Int:=(d * d+39373 * d+7)%2147483629
noncomputable def ZM (e:Int):Int:=(e * e+16807 * e)%2147483587
def SD (c:Int):0<=Jl c/\Jl c<2147483647:=⟨emod_nonneg _ (by decide),bJ _ (by decide)⟩
def lb (c:Int):0<=Zt c/\Zt c<2147483629:=⟨emod_nonneg _ (by decide),bJ _ (by decide)⟩
def lg {c m:Int}(H:0<=c)(h:c<2147483647)(n:0<m)(o:m<1000000000000000):QX [.ref 0,.int m] [.lst [.int c,.bl false]]=.ok (.int (ZM (Zt (Jl c))/8%m)) [.lst [.int (Jl c),.bl false]]:=by
 have j:=SD c;refine qM ?_;dsimp only[GD,mq];refine(zA (ρ1:=[rO 0,iV m,none,none]) (A1:=[.lst [.int c,.bl false]]) ((jT (A1:=[.lst [.int c,.bl false]]) rfl).trans rfl)).trans ?_;have i:zm Y4 (zm qJ (zm qE (zm zH zI qB) (zT (.int 48271))) (zT (.int 29))) (zT (.int 2147483647)) [rO 0,iV m,none,none] [.lst [.int c,.bl false]]=.ok (.int (Jl c)) [.lst [.int c,.bl false]]:=by
  have l:zm qE (zm zH zI qB) (zT (.int 48271)) [rO 0,iV m,none,none] [.lst [.int c,.bl false]]=.ok (.int (c * 48271)) [.lst [.int c,.bl false]]:=
   (zE (x:=.int c) (y:=.int 48271) (A1:=[.lst [.int c,.bl false]]) (A2:=[.lst [.int c,.bl false]]) rfl rfl).trans yN
  refine(zE (x:=.int (c * 48271+29)) (y:=.int 2147483647) (A1:=[.lst [.int c,.bl false]]) (A2:=[.lst [.int c,.bl false]]) ((zE l rfl).trans rfl) rfl).trans ?_;exact JG (by decide)
 refine(zA (ρ1:=[rO 0,iV m,none,none]) (A1:=[.lst [.int (Jl c),.bl false]]) ?_).trans ?_
 ·unfold Q9
  rw[i,zJ]
  rfl
 generalize Jl c=d at*;have g:zm Y4 (zm qJ (zm qJ (zm qE (zm zH zI qB) (zm zH zI qB)) (zm qE (zT (.int 39373)) (zm zH zI qB))) i8) (zT (.int 2147483629)) [rO 0,iV m,none,none] [.lst [.int d,.bl false]]=
   .ok (.int (Zt d)) [.lst [.int d,.bl false]]:=by
  have l:zm qE (zm zH zI qB) (zm zH zI qB) [rO 0,iV m,none,none] [.lst [.int d,.bl false]]=.ok (.int (d * d)) [.lst [.int d,.bl false]]:=
   (zE (x:=.int d) (y:=.int d) (A1:=[.lst [.int d,.bl false]]) (A2:=[.lst [.int d,.bl false]]) rfl rfl).trans yN
  have E:zm qE (zT (.int 39373)) (zm zH zI qB) [rO 0,iV m,none,none] [.lst [.int d,.bl false]]=.ok (.int (39373 * d)) [.lst [.int d,.bl false]]:=
   (zE (x:=.int 39373) (y:=.int d) (A1:=[.lst [.int d,.bl false]]) (A2:=[.lst [.int d,.bl false]]) rfl rfl).trans (yN (by decide) (by decide))
  have a:zm qJ (zm qE (zm zH zI qB) (zm zH zI qB)) (zm qE (zT (.int 39373)) (zm zH zI qB)) [rO 0,iV m,none,none] [.lst [.int d,.bl false]]=.ok (.int (d * d+39373 * d)) [.lst [.int d,.bl false]]:=
   (zE l E).trans rfl
  refine(zE (x:=.int (d * d+39373 * d+7)) (y:=.int 2147483629) (A1:=[.lst [.int d,.bl false]]) (A2:=[.lst [.int d,.bl false]]) ((zE a rfl).trans rfl) rfl).trans ?_;exact JG (by decide)
 refine(zA (qj g)).trans ?_;have B:=lb d;generalize Zt d=e at*;have b:zm Y4 (zm qJ (zm qE qb qb) (zm qE (zT (.int 16807)) qb)) (zT (.int 2147483587)) [rO 0,iV m,none,iV e] [.lst [.int d,.bl false]]=.ok (.int (ZM e)) [.lst [.int d,.bl false]]:=by
  have l:zm qE qb qb [rO 0,iV m,none,iV e] [.lst [.int d,.bl false]]=.ok (.int (e * e)) [.lst [.int d,.bl false]]:=
   (zE (x:=.int e) (y:=.int e) (A1:=[.lst [.int d,.bl false]]) (A2:=[.lst [.int d,.bl false]]) rfl rfl).trans yN
  have E:zm qE (zT (.int 16807)) qb [rO 0,iV m,none,iV e] [.lst [.int d,.bl false]]=.ok (.int (16807 * e)) [.lst [.int d,.bl false]]:=
   (zE (x:=.int 16807) (y:=.int e) (A1:=[.lst [.int d,.bl false]]) (A2:=[.lst [.int d,.bl false]]) rfl rfl).trans (yN (by decide) (by decide))
  refine(zE (x:=.int (e * e+16807 * e)) (y:=.int 2147483587) (A1:=[.lst [.int d,.bl false]]) (A2:=[.lst [.int d,.bl false]]) ((zE l E).trans rfl) rfl).trans ?_;exact JG (by decide)
 refine(zA (qj b)).trans ?_;generalize ZM e=f at*;refine qh (qH ?_);refine(zE (x:=.int (f/8)) (y:=.int m) (A1:=[.lst [.int d,.bl false]]) (A2:=[.lst [.int d,.bl false]]) ?_ rfl).trans (JG n);exact(zE (x:=.int f) (y:=.int 8) (A1:=[.lst [.int d,.bl false]]) (A2:=[.lst [.int d,.bl false]]) rfl rfl).trans (Xw (by decide) (by decide))
def qQ (n:Nat)(A:Hx):Prop:=∃c b,A[n]? =some (.lst [.int c,.bl b])/\0<=c/\(b=false->c<2147483647)
def QA (h:qQ n A){m:Int}(i:0<m)(l:m<1000000000000000):∃r o,j4 [.ref n,.int m] A=.ok (.int r) (A.set n o)/\0<=r/\r<m/\qQ n (A.set n o):=by
 obtain⟨c,b,d,a,f⟩:=h;have j:n<A.length:=(cm.mp d).1;have g:∀(r C:Int),QX [.ref 0,.int m] [.lst [.int c,.bl b]]=.ok (.int r) [.lst [.int C,.bl b]]->j4 [.ref n,.int m] A=.ok (.int r) (A.set n (.lst [.int C,.bl b])):=λr C e=>by
  unfold j4 kx;dsimp only;rw[d];dsimp only;have H:(qR [W.int c,W.bl b]&&qR [W.int m])=true:=rfl;rw[ai H,e]
  rfl
 cases b with
 |true=>
  refine⟨c%m,_,g _ _ (k7 i l),emod_nonneg _ (by lia),bJ _ i,c/m,true,ar j,Int.ediv_nonneg a (by lia),λz=>nomatch z⟩
 |false=>
  exact⟨_,_,g _ _ (lg a (f rfl) i l),emod_nonneg _ (by lia),bJ _ i,Jl c,false,ar j,(SD c).1,λ_=>(SD c).2⟩
end G
namespace Mi
open PySem L2
def K1 {k:Nat}{x y:List W}(h:A[n]? =some (.lst x))(a:A[k]? =some (.lst y))(H:x.length+y.length<=zX):qJ (.ref n) (.ref k) A=.ok (.ref A.length) (A++[.lst (x++y)]):=by unfold qJ;dsimp only;rw[h,a];dsimp only;rw[ai H]
def Ext (A A':Hx):Prop:=∃l,A'=A++l
def Ext.refl:Ext A A:=⟨[],by simp⟩
def Ext.trans {C:Hx}(a:Ext A B)(b:Ext B C):Ext A C:=let ⟨l,e⟩:=a;let ⟨k,f⟩:=b;⟨l++k,by rw[f,e,aP]⟩
def Ext.one {o:O}:Ext A (A++[o]):=⟨[o],rfl⟩
def Ext.at {A':Hx}{o:O}(x:Ext A A')(h:A[n]? =some o):A'[n]? =some o:=by
 obtain⟨l,rfl⟩:=x
 have:=(cm.mp h).1
 rw[ah this];exact h
def C7 {t:Ev}{N:Nat}{I:Nat->En->List W->Hx->Prop}
  (H:∀i r q A,i<N->I i r q A->∃w ρ1,j.at_ A i=some (some w)/\tw w r=some ρ1/\((∃A1 c a A2,t ρ1 A=.ok (.bl true) A1/\em ρ1 q A1=.ok (c,a) A2/\I (i+1) c a A2)∨(∃A1,t ρ1 A=.ok (.bl false) A1/\I (i+1) ρ1 q A1)))
  (e:∀r q A,I N r q A->j.at_ A N=some none):
  ∀(f i:Nat)(r:En)(q:List W)(A:Hx),i+f=N->I i r q A->∃d b A',qZ j tw t em f i r q A=.ok (d,b) A'/\I N d b A':=by
 intro f
 induction f with
 |zero=>
  intro i r q A h g
  have:i=N:=by lia
  subst this;refine⟨r,q,A,?_,g⟩;unfold qZ;rw[e _ _ _ g]
 |succ f n=>
  intro i r q A h g;obtain⟨w,ρ1,v,u,o⟩:=H i r q A (by lia) g
  rw[qZ,v];dsimp only;rw[u];dsimp only;rcases o with ⟨A1,c,a,A2,l,p,E⟩|⟨A1,l,E⟩
  ·rw[l,zJ]
   dsimp only;rw[p,zJ];exact n (i+1) _ _ _ (by lia) E
  ·rw[l,zJ]
   dsimp only;exact n (i+1) _ _ _ (by lia) E
def UL {nl:Nat}{ifs:Ev}{N:Nat}{I:Nat->En->List W->Hx->Prop}(l:mi ρ A=.ok j A1)(f:j.len=N)
  (h:∀i ρ acc A,i<N->I i ρ acc A->∃w ρ1,j.at_ A i=some (some w)/\tw w ρ=some ρ1/\((∃A1 d b A2,ifs ρ1 A=.ok (.bl true) A1/\em ρ1 acc A1=.ok (d,b) A2/\I (i+1) d b A2)∨(∃A1,ifs ρ1 A=.ok (.bl false) A1/\I (i+1) ρ1 acc A1)))
  (H:∀ρ acc A,I N ρ acc A->j.at_ A N=some none)(n:I 0 (QC nl cap ρ) [] A1):∃c a A',qD nl cap mi tw ifs em ρ A=.ok a A'/\I N c a A':=by
 obtain⟨c,a,A',e,g⟩:=C7 h H N 0 _ _ _ (by lia) n
 refine⟨c,a,A',?_,g⟩;unfold qD;rw[l,zJ,f,e]
 rfl
def yK {st:W->Ex}{N:Nat}{I:Nat->En->Hx->Prop}
  (H:∀i g A,i<N->I i g A->∃w ρ1 A1,j.at_ A i=some (some w)/\st w g A=.ok (.nx ρ1) A1/\I (i+1) ρ1 A1)(d:∀g A,I N g A->j.at_ A N=some none):
  ∀(f i:Nat)(g:En)(A:Hx),i+f=N->I i g A->∃a A',yb j st f i g A=.ok (.nx a) A'/\I N a A':=by
 intro f
 induction f with
 |zero=>
  intro i g A h b
  have:i=N:=by lia
  subst this;exact⟨g,A,UD (d _ _ b),b⟩
 |succ f c=>
  intro i g A h b;obtain⟨w,ρ1,A1,n,l,e⟩:=H i g A (by lia) b
  rw[Xa n l];exact c (i+1) _ _ (by lia) e
def UX {a:List W}{y:W}(h:me ρ A=.ok y A1)(H:a.length<zX):qw me ρ a A=.ok (ρ,a++[y]) A1:=by unfold qw;rw[h,zJ,ai H]
theorem take_succ {l:List α}(h:i<l.length):l.take (i+1)=l.take i++[l[i]]:=by rw[List.take_succ,ae h];rfl
def Ext.app {l:Hx}(x:Ext A B):Ext A (B++l):=x.trans ⟨l,rfl⟩
def Ext.len (x:Ext A B):A.length<=B.length:=by obtain⟨l,rfl⟩:=x;simp
def jS {o:O}(h:A[n]? =some o):n<A.length:=(cm.mp h).1
end Mi
namespace G
open PySem L2 Mi
def lh {w:W}(H:A[n]? =some (.lst ws))(h:ws[i]? =some w):((zW (.ref n) A).map λws=>ws[i]?)=some (some w):=by rw[wZ H,h]
def lj (H:A[n]? =some (.lst ws))(h:ws.length<=i):((zW (.ref n) A).map λws=>ws[i]?)=some none:=by rw[wZ H,aD h]
theorem Xb:∀(l:bP)(m:Int),m<=yk l m/\∀x∈l,x<=yk l m
 |[],m=>⟨Int.le_refl _,λx h=>by cases h⟩|y::l,m=>by
  unfold yk
  split
  ·rename_i a
   obtain⟨c,b⟩:=Xb l y;refine⟨by lia,λx H=>?_⟩
   rcases cn.mp H with rfl|H
   ·exact c
   ·exact b x H
  ·rename_i a
   obtain⟨c,b⟩:=Xb l m;refine⟨c,λx H=>?_⟩;rcases cn.mp H with rfl|H
   ·lia
   ·exact b x H
theorem Og:∀{l:List α}{k:Nat}{w:α},l[k]? =some w->l.Perm (w::l.eraseIdx k)
 |[],_,_,h=>by simp at h|x::l,0,w,h=>by simp at h;subst h;simp
 |x::l,k+1,w,h=>by rw[List.getElem?_cons_succ]at h;rw[List.eraseIdx_cons_succ];exact((Og h).cons x).trans (List.Perm.swap w x _)
def E8 {k:Nat}{i:Int}{w:W}(h:A[n]? =some (.lst ws))(a:ws[k]? =some w)(H:jG i=true)(e:seqIndex? i ws.length=some k):Z8 (.ref n) (.int i) A=.ok w (A.set n (.lst (ws.eraseIdx k))):=by unfold Z8;dsimp only;rw[h];dsimp only;rw[ai H,e];dsimp only;rw[a]
def ll {k:Nat}(h:k<n):seqIndex? (k:Int) n=some k:=by
 have:=PySem.StrLaws.seqIndex_nonneg (i:=(k:Int)) (n:=n) (by lia) (by lia)
 rw[aA]at this;exact this
def Ce {k:Nat}{w:W}(h:A[n]? =some (.lst ws))(a:ws[k]? =some w)(H:k<1000000):Z8 (.ref n) (.int k) A=.ok w (A.set n (.lst (ws.eraseIdx k))):=
 E8 h a (G.ZY H) (ll (cm.mp a).1)
theorem Ov {b:Type}(f:α->b):∀(l:List α)(k:Nat),(l.map f).eraseIdx k=(l.eraseIdx k).map f
 |[],_=>rfl|_::_,0=>rfl|a::l,k+1=>by rw[aR,List.eraseIdx_cons_succ,List.eraseIdx_cons_succ,aR,Ov f l k]
def Jx {a b:Ev}{y:W}(c:a ρ A=.ok (.ref n) A)(d:A[n]? =some (.lst ws))(H:b ρ A=.ok y A1):yu g a b ρ A=g (.ref n) y A1:=by
 unfold yu;have h:Qn (.ref n) A=true:=by unfold Qn;dsimp only;rw[d]
 rw[c,zJ,ai h,H,zJ]
def GK {y:W}(h:A[n]? =some (.lst ws))(H:ws.length<1000):kg (.ref n) y A=.ok .non (A.set n (.lst (ws++[y]))):=by unfold kg;dsimp only;rw[h];dsimp only;rw[ai (by unfold zX;lia)]
def K3 {f:Fn}{us:List W}{c C:Int}{b B:Bool}{w:W}(a:A[n]? =some (.lst [.int c,.bl b]))(H:qR us=true)(h:f (.ref 0::us) [.lst [.int c,.bl b]]=.ok w A1)(i:A1[0]? =some (.lst [.int C,.bl B]))(e:w.nr=true):kx f (.ref n::us) A=.ok w (A.set n (.lst [.int C,.bl B])):=by
 unfold kx;dsimp only;rw[a];dsimp only;have g:(qR [W.int c,W.bl b]&&qR us)=true:=by rw[H];rfl
 rw[ai g,h];dsimp only;rw[List.head?_eq_getElem?,i];dsimp only;have d:(qR [W.int C,W.bl B]&&w.nr)=true:=by rw[e];rfl
 rw[ai d]
noncomputable abbrev iL (l:bT):List W:=l.map λ(a:Nat)=>W.int a
def DW {m:Ev}(h:m ρ A=.ok (.int n) A1)(H:n<=100):Tp m ρ A=.ok (.ref A1.length) (A1++[.lst (iL (List.range n))]):=by
 unfold Tp;rw[h,zJ];dsimp only;rw[ZY (by lia),aA,ay (by unfold zX;lia)]
 rfl
def G2 {m:Ev}{o:List α}{f:α->W}{G:α->W}(h:m ρ A=.ok (.tup (o.map f)) A)(l:o.length<=zX)(d:∀a∈o,me (some (f a)::cap.map λi=>(ρ[i]?).join) A=.ok (G a) A):
  qD 1 cap (q9 m) (zQ 0) jl (qw me) ρ A=.ok (o.map G) A:=by
 by_cases c:o=[]
 ·subst c
  have e:=gB (cap:=cap) (me:=me) (ρ:=ρ) (A:=A) (N:=0) (item:=λ_=>.non) (g:=λ_=>.non) (Q2 h) rfl (by unfold zX;lia) (λi H=>by lia) rfl (λi H=>by lia)
  exact e
 ·obtain⟨x,b⟩:∃x,x∈o:=List.exists_mem_of_ne_nil o c
  have e:=gB (cap:=cap) (me:=me) (ρ:=ρ) (A:=A) (N:=o.length) (item:=λi=>f (o.getD i x)) (g:=λi=>G (o.getD i x)) (Q2 h) (ag ..) l
   (λi H=>by show some (o.map f)[i]? =_;rw[ax,ae H,aa,ae H];rfl)
   (by show some (o.map f)[o.length]? =_;rw[aD (by rw[ag];exact aq _)])
   (λi H=>by
    have:o.getD i x=o[i]:=by rw[aa,ae H];rfl
    rw[this];exact d _ (aJ H))
  rw[e]
  congr 1
  apply a8
  ·simp
  ·intro i n j
   have H:i<o.length:=by simpa using j
   simp[aa,ae H]
def KJ {a:Type}(o:List α)(x:α)(f:α->a):o.map f=(List.range o.length).map λi=>f (o.getD i x):=by
 apply a8
 ·simp
 ·intro i H b
  have h:i<o.length:=by simpa using H
  simp[aa,ae h]
def Ts (q:∀r∈t,r.length=t.length){v:Int}(h:v∈t.flatten):∃a b,a<t.length/\b<t.length/\at2 t a b=v:=by
 obtain⟨r,H,e⟩:=List.mem_flatten.mp h;obtain⟨a,d,g⟩:=a4 H;obtain⟨b,c,f⟩:=a4 e;refine⟨a,b,d,by rw[<- q r H];exact c,?_⟩
 unfold at2;have E:t.getD a []=r:=by rw[aa,ae d];exact g
 rw[E,aa,ae c];exact f
def lp (H:∀r∈t,r.length=t.length){a b:Nat}(d:a<t.length)(c:b<t.length):∃r∈t,at2 t a b∈r/\at2 t a b∈t.flatten:=by
 have e:t.getD a []∈t:=ki d;have f:at2 t a b∈t.getD a []:=by
  unfold at2;have h:b<(t.getD a []).length:=by rw[H _ e];exact c
  rw[aa (l:=t.getD a []),ae h];exact aJ _
 exact⟨_,e,f,List.mem_flatten.mpr ⟨_,e,f⟩⟩
def Tv {r:bP}{x:Int}(h:x∈r):x<=kz r:=by
 cases r with
 |nil=>cases h|cons i I=>
  show x<=yk I i;rcases cn.mp h with rfl|h
  ·exact(Xb I x).1
  ·exact(Xb I i).2 x h
section
def Wr (h:qi t){a b:Nat}(d:a<t.length)(c:b<t.length):at2 t a b<qf t:=by obtain⟨r,H,f,_⟩:=lp h.sq d c;have E:=Tv f;have e:=Tv (cu.mpr ⟨r,H,rfl⟩:kz r∈t.map kz);unfold qf;lia
def Xf (h:qi t):qf t-1∈t.flatten:=by
 obtain⟨r,H,e⟩:=cu.mp (G1 h.map_ne)
 have:qf t-1=kz r:=by unfold qf;lia
 rw[this];exact List.mem_flatten.mpr ⟨r,H,G1 (h.row_ne H)⟩
def Xz (h:qi t):qf t<=(t.length:Int):=by
 obtain⟨r,a,H⟩:=List.mem_flatten.mp (Xf h)
 have:=h.lo r a _ H
 lia
def Qu (h:qi t){v:Nat}(H:(v:Int)<qf t):∃a b,a<t.length/\b<t.length/\at2 t a b=(v:Int):=by
 by_cases e:(v:Int)=qf t-1
 ·rw[e];exact Ts h.sq (Xf h)
 ·exact Ts h.sq (h.fu v ⟨_,Xf h,by lia⟩)
noncomputable def jf (p:bT):bP:=0::p.map λ(k:Nat)=>1+(k:Int)
def w9 (t:bN)(p o:bT):bN:=o.map λa=>o.map λb=>(jf p).getD (at2 t a b).toNat 0
def Q3 {p:bT}{v:Nat}(H:1<=v)(h:v<=p.length):(jf p).getD v 0=1+((p[v-1]'(by lia):Nat):Int):=by
 obtain⟨v,rfl⟩:∃u,v=u+1:=⟨v-1,by lia⟩
 unfold jf;rw[aa,List.getElem?_cons_succ,ax,ae (by lia)]
 rfl
def OI (h:qi t){p o:bT}(n:p.Perm (List.range (qf t-1).toNat))(f:o.Perm (List.range t.length)):qi (w9 t p o)/\(w9 t p o).length=t.length:=by
 have l:o.length=t.length:=by rw[f.length_eq,aI]
 have kb:=km h;have P:=Xz h;have D:p.length=(qf t-1).toNat:=by rw[n.length_eq,aI]
 have Y:=h.n1;have H:∀i,o.getD i 0<t.length:=λi=>by
  by_cases X:i<o.length
  ·rw[aa,ae X]
   exact cj.mp (f.mem_iff.mp (aJ X))
  ·rw[aa,aD (by lia)]
   exact Y
 have x:o.Nodup:=(f.nodup_iff).mpr nodup_range;have r:∀a,a<t.length->∃i,i<t.length/\o.getD i 0=a:=λa B=>by obtain⟨i,X,e⟩:=a4 (f.mem_iff.mpr (cj.mpr B));exact⟨i,by lia,by rw[aa,ae X];exact e⟩
 have c:∀q (g:q<p.length),p[q]<p.length:=λq g=>by
  have:=cj.mp (n.mem_iff.mp (aJ g))
  lia
 have M:Mu t.length (λi j=>(jf p).getD (at2 t (o.getD i 0) (o.getD j 0)).toNat 0) p.length (λ_ _=>True):=by
  refine⟨λi=>?_,λi j=>?_,λi j E C _=>?_,λi j _ _ Z=>absurd trivial Z,λk k1 Q=>?_⟩
  ·show(jf p).getD (at2 t (o.getD i 0) (o.getD i 0)).toNat 0=0
   rw[(h.dg _ _ (H i) (H i)).mpr rfl]
   rfl
  ·show(jf p).getD (at2 t (o.getD i 0) (o.getD j 0)).toNat 0=(jf p).getD (at2 t (o.getD j 0) (o.getD i 0)).toNat 0
   rw[h.sy _ _ (H i) (H j)]
  ·show 1<=(jf p).getD (at2 t (o.getD i 0) (o.getD j 0)).toNat 0/\(jf p).getD (at2 t (o.getD i 0) (o.getD j 0)).toNat 0<=(p.length:Int)
   have u:o.getD i 0≠o.getD j 0:=by
    have A:i<o.length:=by lia
    have y:j<o.length:=by lia
    rw[aa,ae A,aa,ae y];intro e;have N:o[i]=o[j]:=e
    have:=(getElem_inj x).mp N
    lia
   have d:=h.dg _ _ (H i) (H j);have U:=Y5 h (H i) (H j);have T:=Wr h (H i) (H j);have S:at2 t (o.getD i 0) (o.getD j 0)≠0:=λe=>u (d.mp e);rw[Q3 (by lia) (by lia)]
   have:=c ((at2 t (o.getD i 0) (o.getD j 0)).toNat-1) (by lia)
   lia
  ·obtain⟨q,g,e⟩:=a4 (n.mem_iff.mpr (cj.mpr (by lia:k-1<(qf t-1).toNat)))
   obtain⟨a,b,B,I,L⟩:=Qu h (v:=q+1) (by lia)
   obtain⟨i,X,K⟩:=r a B;obtain⟨j,C,J⟩:=r b I;refine⟨i,j,X,C,?_⟩;show(jf p).getD (at2 t (o.getD i 0) (o.getD j 0)).toNat 0=(k:Int);rw[K,J,L,aA,Q3 (by lia) (by lia)]
   have:p[q+1-1]'(by lia)=k-1:=e
   rw[this];lia
 have hT:w9 t p o=jV t.length (λi j=>(jf p).getD (at2 t (o.getD i 0) (o.getD j 0)).toNat 0):=by
  unfold w9 jV;rw[KJ o 0,l]
  congr 1
  funext i
  rw[KJ o 0 (λb=>(jf p).getD (at2 t (o.getD i 0) b).toNat 0),l]
 refine⟨?_,by unfold w9;rw[ag,l]⟩
 rw[hT];exact M.tab (λ_ _ _ _=>trivial) Y h.n8 (.inr (by lia))
end
end G
namespace Mi
open PySem L2
def Ad {r b:Nat}{v:W}(h:A[r]? =some (.lst ws))(H:b<ws.length):wQ (.ref r) (.int b) v A=.ok () (A.set r (.lst (ws.set b v))):=by
 have e:gu ws.length (b:Int)=some b:=by unfold gu;rw[ai (by lia),ai (by lia),aA]
 unfold wQ;dsimp only;rw[h];dsimp only;rw[e]
structure Kp (n:Nat)(A B:Hx):Prop where
 len:A.length<=B.length
 at_:∀i,i<A.length->i≠n->B[i]? =A[i]?
section
variable {C:Hx}
def Kp.refl:Kp n A A:=⟨aq _,λ_ _ _=>rfl⟩
theorem Kp.trans (a:Kp n A B)(b:Kp n B C):Kp n A C:=⟨aZ a.len b.len,λi H h=>(b.at_ i (aK H a.len) h).trans (a.at_ i H h)⟩
theorem Kp.set {o:O}:Kp n A (A.set n o):=⟨by rw[bw];exact aq _,λi _ h=>av (Ne.symm h)⟩
def Kp.ext (x:Ext A B):Kp n A B:=by obtain⟨l,rfl⟩:=x;exact⟨by simp,λi h _=>ah h⟩
def Kp.get (a:Kp n A B){o:O}(h:A[i]? =some o)(H:i≠n):B[i]? =some o:=by rw[a.at_ i (jS h) H];exact h
end
def GV {a:Nat->Nat->Int}:(jV n a).length=n:=by unfold jV;simp
end Mi
namespace G
open PySem L2 Mi
section
abbrev Sq (t:bN):Prop:=∀r∈t,r.length=t.length
end
def Vn (t:bN):Bool:=decide (1<=t.length)&&(decide (t.length<=8)&&((t.all λr=>r.length==t.length&&r.all λv=>decide (0<=v)&&decide (v<(t.length:Int)))&&
 (((List.range t.length).all λa=>(List.range t.length).all λb=>(decide (at2 t a b=0)==decide (a=b))&&decide (at2 t a b=at2 t b a))&&(List.range 8).all λk=>!(t.flatten.any λv=>decide ((k:Int)<v)) || t.flatten.contains (k:Int))))
def NF (h:Vn t=true):qi t:=by
 unfold Vn at h;rw[ak,ak,ak,ak,ao,ao]at h;obtain⟨o,N,j,i,p⟩:=h;have rw_:∀r∈t,r.length=t.length/\∀v∈r,0<=v/\v<(t.length:Int):=λr n=>by
  have:=cw.mp j r n
  rw[ak,aL]at this;refine⟨this.1,λv d=>?_⟩
  have:=cw.mp this.2 v d
  rw[ak,ao,ao]at this;exact this
 have at_:∀a b,a<t.length->b<t.length->(decide (at2 t a b=0)==decide (a=b))=true/\at2 t a b=at2 t b a:=λa b c H=>by
  have:=cw.mp (cw.mp i a (cj.mpr c)) b (cj.mpr H)
  rw[ak,ao]at this;exact this
 refine⟨o,N,λr n=>(rw_ r n).1,λr n=>(rw_ r n).2,λa b c H=>?_,λa b c H=>(at_ a b c H).2,λk l=>?_⟩
 ·have:=aL.mp (at_ a b c H).1
  by_cases q:a=b
  ·rw[ay q]at this;exact⟨λ_=>q,λ_=>of_decide_eq_true this⟩
  ·rw[aG q]at this;exact⟨λz=>absurd z (of_decide_eq_false this),λz=>absurd z q⟩
 ·obtain⟨v,d,f⟩:=l
  obtain⟨r,n,e⟩:=List.mem_flatten.mp d
  have:=(rw_ r n).2 v e
  have g:=cw.mp p k (cj.mpr (by lia))
  rw[a3]at g;rcases g with z|z
  ·exfalso
   have:(t.flatten.any λv=>decide ((k:Int)<v))=true:=List.any_eq_true.mpr ⟨v,d,ay f⟩
   rw[this]at z;cases z
  ·exact List.contains_iff_mem.mp z
def ZN (t:bN):((zp t).nr&&true)=true:=by rw[Ze];rfl
noncomputable def yH:W->Bool
 |.int _=>true|_=>false
def Je {m:Ev}{w:W}{ty c:Ty}(h:m ρ A=.ok w A1)(H:jq w A1=some ty):Zo c m ρ A=.ok (.bl (kq ty c)) A1:=by unfold Zo;rw[h,zJ,H]
def Jb (h:ρ[i]? =some (some (.tup ws))):mQ qu (qa (zU i)) ρ A=.ok (.int ws.length) A:=by
 rw[j0 (yL (w:=.tup ws) (A1:=A) (zi h) rfl)]
 rfl
def EJ (i:Int)(A:Hx):Ju [.int i] A=.ok (.bl true) A:=by unfold Ju UG;exact qM (w:=.bl true) (A1:=A) rfl
def Nk {r:bP}(h:r.length<=8)(A:Hx):gz [zo r,.int r.length] A=.ok (.bl true) A:=by
 unfold gz Yr;refine qM ?_;dsimp only[Js,mq];refine qh (qH ?_);refine(Z7 (A1:=A) rfl).trans ?_;have e:mQ qu (qa zI) [some (zo r),iV r.length] A=.ok (.int r.length) A:=by rw[j0 (yL (w:=zo r) (A1:=A) (zi rfl) rfl)];unfold qu;rw[ag]
 refine(Z7 (A1:=A) ((zE e (zi (i:=1) rfl)).trans ((wU _ _ _).trans (by rw[ay rfl])))).trans ?_
 have E:=YI (cap:=[]) (A:=A) (ρ:=[some (zo r),iV r.length]) (ws:=r.map W.int) (me:=zO Ju (zj zI zw)) (g:=λ_=>.bl true) (zi (i:=0) rfl) (by rw[ag];unfold zX;lia) (λw H=>by obtain⟨i,_,rfl⟩:=cu.mp H;exact(zM (ws:=[.int i]) (A1:=A) rfl).trans (EJ i A))
 exact(j0 E).trans (Xu (p:=λ_=>true) λ_ _=>rfl)
def lq {r:bP}(l:r.length<=8)(H:∀v∈r,0<=v/\v<r.length)(A:Hx):QU [zo r,.int r.length,.int r.length] A=.ok (.bl true) A:=by
 unfold QU VZ;refine qM ?_;dsimp only[Gf,mq];refine qh (qH ?_);refine(Z7 (A1:=A) ((zM (ws:=[zo r,.int r.length]) (A1:=A) rfl).trans (Nk l A))).trans ?_;have e:=YI (cap:=[2]) (A:=A) (ρ:=[some (zo r),iV r.length,iV r.length]) (ws:=r.map W.int) (me:=gO Kt VG (zT (.int 0)) (zU 0) (zU 1)) (g:=λ_=>.bl true) (zi (i:=0) rfl) (by rw[ag];unfold zX;lia) (λw a=>by obtain⟨v,h,rfl⟩:=cu.mp a;obtain⟨c,b⟩:=H v h;unfold gO;rw[zN,zJ,zi (i:=0) (w:=.int v) rfl,zJ];show R.bind (R.ok (W.bl (decide ((0:Int)<=v))) A) _=_;rw[ay c,zJ];dsimp only;rw[zi (i:=1) (w:=.int r.length) rfl,zJ];show R.ok (W.bl (decide (v<(r.length:Int)))) A=_;rw[ay b])
 exact(j0 e).trans (Xu (p:=λ_=>true) λ_ _=>rfl)
def lr (h:qi t)(A:Hx):OB [zp t] A=.ok (.bl true) A:=by
 refine gI (A1:=[]) (ZN t) rfl (qM ?_);dsimp only[UQ,mq];obtain⟨d,e,_⟩:=OE (A:=[]) (N:=t.length) (item:=λi=>.tup [.int i,zo (t.getD i [])]) (I:=λD=>∃g Y y C,D=[some (zp t),g,Y,y,C])
  (j:=kR (zp t) (t.map zo).length) (st:=turn (jZ 1 2) (zG (jM (Jd qg) (jZ 3 4) (zG (jk (ZT (zm ju (zm jQ ql qB) (zm jQ zD qb)) (zm ju (zm zH (zm zH zI qb) zD) ql)) kF zS) zS)) zS))
  (λi n=>Ka (Wn n)) (by have:=YY (A:=[]) (ws:=t.map zo);rw[ag]at this;rw[ag];exact this) (λa f D H=>by
   obtain⟨g,Y,y,C,rfl⟩:=H;have l:=h.sq _ (ki f);obtain⟨o,E,p,Z,r⟩:=OE (A:=[]) (N:=t.length) (item:=λi=>.tup [.int i,.int ((t.getD a []).getD i 0)]) (I:=λD=>∃y C,D=[some (zp t),iV a,some (zo (t.getD a [])),y,C])
    (j:=kR (zo (t.getD a [])) ((t.getD a []).map W.int).length) (st:=turn (jZ 3 4) (zG (jk (ZT (zm ju (zm jQ ql qB) (zm jQ zD qb)) (zm ju (zm zH (zm zH zI qb) zD) ql)) kF zS) zS))
    (λi n=>Ka (int_at (by lia)))
    (by have:=YY (A:=[]) (ws:=(t.getD a []).map W.int);rw[ag,l]at this;rw[ag,l];exact this)
    (λb c D H=>by
     obtain⟨y,C,rfl⟩:=H;refine⟨[some (zp t),iV a,some (zo (t.getD a [])),iV b,iV ((t.getD a []).getD b 0)],?_,_,_,rfl⟩;refine(jY rfl).trans ?_;refine(zA ((jT (A1:=[]) ?_).trans rfl)).trans rfl;have x:zm ju (zm jQ ql qB) (zm jQ zD qb) [some (zp t),iV a,some (zo (t.getD a [])),iV b,iV ((t.getD a []).getD b 0)] []=.ok (.bl false) []:=by
      refine(zE ((zE (zi (i:=4) rfl) (zN (w:=.int 0))).trans (wU _ _ _)) ((zE (zi (i:=1) rfl) (zi (i:=3) rfl)).trans (wU _ _ _))).trans ((kB _ _ _).trans ?_);have J:(t.getD a []).getD b 0=0↔a=b:=h.dg a b f c
      have:decide ((t.getD a []).getD b 0=0)=decide ((a:Int)=(b:Int)):=by
       by_cases q:a=b
       ·rw[ay (J.mpr q),ay (by lia)]
       ·rw[aG (λz=>q (J.mp z)),aG (by lia)]
      rw[this];simp
     have E:zm ju (zm zH (zm zH zI qb) zD) ql [some (zp t),iV a,some (zo (t.getD a [])),iV b,iV ((t.getD a []).getD b 0)] []=.ok (.bl false) []:=by
      have v:=h.sq _ (ki c);refine(zE ((zE ((zE (zi (i:=0) rfl) (zi (i:=3) rfl)).trans (JE c)) (zi (i:=1) rfl)).trans wj) (zi (i:=4) rfl)).trans ((WZ _ _ _).trans ?_);have u:(t.getD b []).getD a 0=(t.getD a []).getD b 0:=(h.sy a b f c).symm;rw[u,ay rfl]
      rfl
     exact(Va x).trans E) t.length 0 [some (zp t),iV a,some (zo (t.getD a [])),y,C] (by lia) ⟨_,_,rfl⟩
   refine⟨[some (zp t),iV a,some (zo (t.getD a [])),p,Z],?_,_,_,_,_,rfl⟩;refine(jY rfl).trans ?_;rw[r]at E;have B:((t.getD a []).map W.int).length=t.length:=by rw[ag,l]
   refine(zA ((jC (YA (zi (i:=2) rfl))).trans ?_)).trans rfl;show yb (kR (zo (t.getD a [])) ((t.getD a []).map W.int).length) _ ((t.getD a []).map W.int).length 0 _ _=_;rw[B]at E ⊢;exact E) t.length 0 [some (zp t),none,none,none,none] (by lia) ⟨_,_,_,_,rfl⟩
 refine(zA (ρ1:=d) (A1:=[]) ((jC (YA (zi (i:=0) rfl))).trans ?_)).trans (qh rfl);show yb (kR (zp t) (t.map zo).length) _ (t.map zo).length 0 _ _=_;have B:(t.map zo).length=t.length:=ag ..;rw[B]at e ⊢;exact e
def AS (h:qi t)(A:Hx):RT [zp t] A=.ok (.bl true) A:=by
 have q:=BD h;have c:t.flatten≠[]:=by
  intro e;have L:=h.n1;have b:=h.sq _ (ki (t:=t) (a:=0) (by lia))
  have:t.getD 0 []=[]:=by
   have:=List.flatten_eq_nil_iff.mp e _ (ki (t:=t) (a:=0) (by lia))
   exact this
  rw[this]at b;simp at b;lia
 obtain⟨C,l,E⟩:=List.exists_cons_of_ne_nil c;refine gI (A1:=[.lst (t.flatten.map W.int)]) (ZN t) rfl (qM ?_);dsimp only[VS,mq];refine(zA (qj (kf (k4 (zi rfl) (by unfold zX;lia))))).trans (qh (qH ?_))
 generalize u:[O.lst (t.flatten.map W.int)]=B;have d:zW (.ref 0) B=some (t.flatten.map W.int):=by rw[<- u];rfl
 have D:mQ gh (qa zD) [some (zp t),rO 0] B=.ok (.int (yk l C)) B:=by rw[j0 (yL (w:=.ref 0) (A1:=B) (zi rfl) d)];unfold gh;rw[KP,E]
 have H:yk l C∈t.flatten:=by
  rw[E];rcases UW l C with e|e
  ·rw[e];exact aF ..
  ·exact az _ e
 have o:0<=yk l C/\yk l C<8:=by
  obtain⟨r,b,v⟩:=List.mem_flatten.mp H
  have:=h.lo r b _ v
  have:=h.n8
  lia
 generalize yk l C=M at D H o;obtain⟨K,rfl⟩:=aS o.1;have y:=gB (cap:=[1]) (me:=zm Ie zI zD) (ρ:=[some (zp t),rO 0]) (A:=B) (N:=K) (j:=jE 0 K) (item:=λi=>.int (0+i)) (g:=λ_=>.bl true)
  ((yS D (by unfold jG;simp;lia)).trans (by rw[aA])) rfl (by unfold zX;lia) (λi f=>yh f) (yf (by lia))
  (λi f=>by
   refine(zE (zi (i:=0) (w:=.int (0+i)) rfl) (zi (i:=1) (w:=.ref 0) rfl)).trans ?_;show JZ false _ _ _=_;unfold JZ;rw[d];dsimp only;have J:(yx (.int (0+(i:Int)))&&(t.flatten.map W.int).all yx)=true:=by
    have:(t.flatten.map W.int).all yx=true:=cw.mpr λw I=>by obtain⟨x,_,rfl⟩:=cu.mp I;rfl
    rw[this];rfl
   rw[ai J];have n:Ko (.int (0+(i:Int))) (t.flatten.map W.int)=true:=by
    unfold Ko;refine List.any_eq_true.mpr ⟨.int i,cu.mpr ⟨(i:Int),h.fu i ⟨_,H,by lia⟩,rfl⟩,?_⟩
    show((i:Int)==0+(i:Int))=true;rw[Int.zero_add];exact bM _
   rw[n]
   rfl)
 refine(j0 y).trans ?_;exact Xu (p:=λ_=>true) λ_ _=>rfl
def AY (h:qi t)(A:Hx):gA [zp t] A=.ok (.bl true) A:=by
 have N:=h.n1;have n:=h.n8;unfold gA GJ;refine qM ?_;dsimp only[KR,mq];have e:∀b:En,mQ qu (qa (zU 0)) (some (zp t)::b) A=.ok (.int t.length) A:=λb=>by rw[j0 (yL (w:=zp t) (A1:=A) (zi rfl) rfl)];unfold qu;rw[ag]
 refine(zA (ρ1:=[some (zp t),none]) (A1:=A) ((jT (A1:=A) ?_).trans rfl)).trans ?_
 ·refine(Va (A1:=A) rfl).trans ?_
  refine yM (k:=true) ?_;show gO Kt Kt (zT (.int 1)) (mQ qu (qa (zU 0))) (zT (.int 8)) [some (zp t),none] A=_;unfold gO;rw[zN,zJ,e,zJ];show R.bind (R.ok (W.bl (decide ((1:Int)<=t.length))) A) _=_;rw[ay (by lia),zJ]
  dsimp only;rw[zN,zJ];show R.ok (W.bl (decide ((t.length:Int)<=8))) A=_;rw[ay (by lia)]
 refine(zA (qj (e _))).trans ?_;have E:=YI (cap:=[1]) (A:=A) (ρ:=[some (zp t),iV t.length]) (ws:=t.map zo) (me:=zO QU (zj (zU 0) (zj (zU 1) (zj (zU 1) zw)))) (g:=λ_=>.bl true) (zi (i:=0) rfl) (by rw[ag];unfold zX;lia) (λw c=>by obtain⟨r,H,rfl⟩:=cu.mp c;have l:=h.sq r H;refine(zM (ws:=[zo r,.int t.length,.int t.length]) (A1:=A) rfl).trans ?_;rw[<- l];exact lq (by lia) (λv a=>by have:=h.lo r H v a;lia) A)
 refine(zA (ρ1:=[some (zp t),iV t.length]) (A1:=A) ((jT (A1:=A) (yM (k:=true) ((j0 E).trans (Xu (p:=λ_=>true) λ_ _=>rfl)))).trans rfl)).trans (qh (qH ?_));refine(Z7 (A1:=A) ((zM (ws:=[zp t]) (A1:=A) rfl).trans (lr h A))).trans ?_;exact(zM (ws:=[zp t]) (A1:=A) rfl).trans (AS h A)
end G
namespace Mi
open PySem L2
theorem P9:∀(l m:bP),PyData.eqvAll (l.map PyData.int) (m.map PyData.int)=decide (l=m)
 |[],[]=>by simp[PyData.eqvAll]|[],_::_=>by simp[PyData.eqvAll]|_::_,[]=>by simp[PyData.eqvAll]|a::l,b::m=>by simp only[aR,PyData.eqvAll,P9 l m,PyData.eqv];rw[Bool.eq_iff_iff];simp
def Ky (A B:Hx):Prop:=∀w ty,jq w A=some ty->jq w B=some ty
def Ext.ky (x:Ext A B):Ky A B:=λw ty h=>by
 cases w with
 |ref n=>
  unfold jq at h ⊢;dsimp only at h ⊢;cases e:A[n]? with|none=>rw[e]at h;cases h|some o=>rw[e]at h;rw[x.at e];exact h
 |_=>exact h
def Ky.trans {C:Hx}(a:Ky A B)(b:Ky B C):Ky A C:=λw ty h=>b w ty (a w ty h)
section
def XS:jq (.ref A.length) (A++[.lst ws])=some .lst:=by unfold jq;dsimp only;rw[qN]
end
structure Kn (n:Nat)(A B:Hx):Prop where
 kp:Kp n A B
 st:G.qQ n B
def _root_.G.qQ.ty (h:G.qQ n A):jq (.ref n) A=some .lst:=by obtain⟨c,b,e,_⟩:=h;unfold jq;dsimp only;rw[e]
def _root_.G.qQ.lt (h:G.qQ n A):n<A.length:=by obtain⟨c,b,e,_⟩:=h;exact jS e
def _root_.G.qQ.ext (h:G.qQ n A)(x:Ext A B):G.qQ n B:=by obtain⟨c,b,e,r⟩:=h;exact⟨c,b,x.at e,r⟩
def Kn.ky (s:G.qQ n A)(k:Kn n A B):Ky A B:=λw ty h=>by
 cases w with
 |ref i=>
  by_cases q:i=n
  ·subst q
   rw[s.ty]at h;rw[k.st.ty];exact h
  ·unfold jq at h ⊢
   dsimp only at h ⊢
   by_cases z:i<A.length
   ·rw[k.kp.at_ i z q];exact h
   ·rw[aD (by lia)]at h;cases h
 |_=>exact h
theorem Kn.trans {C:Hx}(a:Kn n A B)(b:Kn n B C):Kn n A C:=⟨a.kp.trans b.kp,b.st⟩
theorem Kn.ext (s:G.qQ n A)(x:Ext A B):Kn n A B:=⟨Kp.ext x,s.ext x⟩
end Mi
namespace G
open PySem L2 Mi
def Xy (h:qQ n A){m:Int}(c:0<m)(H:m<1000000000000000):∃(r:Nat) (B:Hx),j4 [.ref n,.int m] A=.ok (.int r) B/\(r:Int)<m/\Kn n A B/\B.length=A.length:=by obtain⟨r,o,e,a,b,s⟩:=QA h c H;exact⟨r.toNat,A.set n o,by rw[e,Int.toNat_of_nonneg a],by lia,⟨Kp.set,s⟩,bw ..⟩
def YQ {m:Int}(h:qQ n A)(d:ρ[0]? =some (rO n))(H:me ρ A=.ok (.int m) A)(c:0<m)(b:m<1000000000000000):∃(r:Nat) (B:Hx),zO j4 (zj zI (zj me zw)) ρ A=.ok (.int r) B/\(r:Int)<m/\Kn n A B/\B.length=A.length:=by obtain⟨r,B,e,a⟩:=Xy h c b;exact⟨r,B,(zM (zr (zi d) (zr H zF))).trans e,a⟩
def S7 {ty:Ty}(h:ty≠.tup):kq ty .tup=false:=by cases ty<;>first|rfl|exact absurd rfl h
def Qk (q:Hx->W->Prop)(A:Hx)(w:W):Prop:=∀B,Ky A B->q B w
def Qk.mono {q:Hx->W->Prop}{w:W}(k:Ky A B)(h:Qk q A w):Qk q B w:=λC q=>h C (k.trans q)
abbrev Jm (A:Hx)(w:W):Prop:=Qk (λB w=>gA [w] B=.ok (.bl false) B) A w
def Lr {w:W}{ty:Ty}(h:jq w A=some ty)(H:ty≠.tup):Jm A w:=λB k=>by
 unfold gA GJ;refine qM ?_;dsimp only[KR,mq];have e:Zo .tup zI [some w,none] B=.ok (.bl false) B:=(Je (zi rfl) (k _ _ h)).trans (by rw[S7 H])
 have E:ZT (ym (Zo .tup zI)) (ym (gO Kt Kt jj (mQ qu (qa zI)) i9)) [some w,none] B=.ok (.bl true) B:=by
  unfold ZT;rw[yM e,zJ]
  rfl
 exact qh ((yC E).trans (qh (qH zN)))
def ET (q:Hx->W->Prop)(D:Hx)(m:Ev)(b:En):Prop:=∀A,Ext D A->∃w a,m b A=.ok w a/\Ext A a/\Qk q a w
def AT (q:Hx->W->Prop)(D:Hx)(a:Ea)(d:En)(k:Nat):Prop:=∀A,Ext D A->∃b c,a d A=.ok b c/\Ext A c/\b.length=k/\∀w∈b,Qk q c w
section
variable {m:Ev}{a:Ea}{k:Nat}{w:W}{q:Hx->W->Prop}{D:Hx}
def JI:AT q D zw ρ 0:=λA _=>⟨[],A,rfl,Ext.refl,rfl,λ_ h=>by cases h⟩
def jv (h:ET q D m ρ)(t:AT q D a ρ k):AT q D (zj m a) ρ (k+1):=λA x=>by
 obtain⟨w,i,E,b,f⟩:=h A x;obtain⟨c,g,e,X,l,d⟩:=t i (x.trans b);refine⟨w::c,g,zr E e,b.trans X,by rw[a6,l],λy H=>?_⟩
 rcases cn.mp H with rfl|H
 ·exact f.mono X.ky
 ·exact d y H
def Kd (h:∀A,m ρ A=.ok w A)(H:∀B,q B w):ET q D m ρ:=λA _=>⟨w,A,h A,Ext.refl,λB _=>H B⟩
def Zg (h:∀A,m ρ A=.ok w A)(H:∀B,gA [w] B=.ok (.bl false) B:=by intro B;kernel_rfl):ET (λB w=>gA [w] B=.ok (.bl false) B) D m ρ:=Kd h H
def lu:ET (λB w=>gA [w] B=.ok (.bl false) B) D Vw ρ:=λA _=>⟨.ref A.length,A++[.dct []],rfl,Ext.one,Lr (ty:=.dct) (by unfold jq;dsimp only;rw[qN]) (by decide)⟩
end
section
variable {a:Ea}{k:Nat}{q:Hx->W->Prop}
structure TL (q:Hx->W->Prop)(A:Hx)(r k:Nat)(B:Hx):Prop where
 at_:∃ws,B[r]? =some (.lst ws)/\ws.length=k/\∀w∈ws,Qk q B w
 nw:A.length<=r
 ext:Ext A B
def Sg (h:AT q A a ρ k):∃r B,qO a ρ A=.ok (.ref r) B/\TL q A r k B:=by obtain⟨b,d,e,x,l,c⟩:=h A .refl;exact⟨_,_,jB e,⟨b,qN,l,λw H=>(c w H).mono Ext.one.ky⟩,x.len,x.app⟩
def Xx {r j:Nat}(t:TL q A r j B)(h:AT q A a ρ k)(c:ρ[i]? =some (rO r))(f:j+k<=100):∃b C,zm qJ (zU i) (qO a) ρ B=.ok (.ref b) C/\TL q A b (j+k) C:=by
 obtain⟨g,e,l,n⟩:=t.at_;obtain⟨U,d,E,X,L,u⟩:=h B t.ext;have x:Ext B (d++[.lst U]):=X.app;refine⟨_,_,(zE (zi c) (jB E)).trans (K1 (x.at e) qN (by unfold zX;lia)),⟨g++U,qN,by rw[aw,l,L],λw H=>?_⟩,?_,(t.ext.trans x).app⟩
 ·rcases cy.mp H with q|q
  ·exact(n w q).mono (x.app).ky
  ·exact(u w q).mono (Ext.one.trans Ext.one).ky
 ·have:=t.ext.len
  have:=x.len
  lia
def ND {r:Nat}{b:Hx}{m:Int}{mm:Ev}(s:qQ n A)(t:TL q A r k B)(i:me ρ b=.ok (.ref r) B)(p:ρ[0]? =some (rO n))(g:∀A,mm ρ A=.ok (.int m) A)(a:(k:Int)=m)(o:0<m)(u:m<1000):∃w C,zm zH me (zO j4 (zj zI (zj mm zw))) ρ b=.ok w C/\Qk q C w/\Kn n A C:=by
 obtain⟨d,e,l,f⟩:=t.at_;have S:=s.ext t.ext;obtain⟨j,C,E,c,K,_⟩:=YQ S p (g B) o (by lia)
 have h:j<d.length:=by lia
 have H:r≠n:=by have:=s.lt;have:=t.nw;lia
 refine⟨d[j],C,(zE i E).trans (wH (K.kp.get e H) (ae h)),(f _ (aJ h)).mono (K.ky S),(Kn.ext s t.ext).trans K⟩
end
section
variable {N a:Nat}
def E4 (g:t.length<=8)(H:Sq t){m:Ev}{c:Hx}(l:m ρ c=.ok (zp t) B):jP (qD 1 [] (q9 m) (zQ 0) jl (qw (jP (qa zI)))) ρ c=
  .ok (.ref (B.length+t.length)) (B++(t.map λr=>O.lst (r.map W.int))++[O.lst ((List.range t.length).map λi=>W.ref (B.length+i))]):=by
 obtain⟨b,d,j,e,⟨z,v⟩,o,n⟩:=UL (nl:=1) (cap:=[]) (tw:=zQ 0) (ifs:=zT (.bl true)) (em:=qw (jP (qa zI))) (ρ:=ρ) (A:=c) (N:=t.length)
  (I:=λp b a C=>(∃z,b=[z])/\C=B++((t.take p).map λr=>O.lst (r.map W.int))/\a=(List.range p).map λi=>W.ref (B.length+i)) (Q2 l) (by simp)
  (λp b a C h ⟨⟨z,u⟩,q,f⟩=>by
   subst u q f;refine⟨zo t[p],[some (zo t[p])],?_,rfl,.inl ⟨_,_,_,_,rfl,UX (kf (yL (w:=zo t[p]) (ws:=t[p].map W.int) (zi rfl) rfl)) ?_,⟨_,rfl⟩,?_,?_⟩⟩
   ·show some (t.map zo)[p]? =_
    rw[ax,ae h];rfl
   ·simp;unfold zX;lia
   ·rw[take_succ h,aN,aP];rfl
   ·rw[bf,aN,aw,ag,bD,Nat.min_eq_left (bI h)];rfl)
  (λb a C _=>by show some (t.map zo)[t.length]? =_;rw[aD (by simp)]) ⟨⟨none,rfl⟩,by simp,by simp⟩
 rw[kf e,o,n,take_length];simp
end
def Dp {c:En}{N:Nat}{u v g:Nat->W}(t:∀i,i<N->j.at_ A i=some (some (.tup [u i,v i])))(H:j.at_ A N=some none)(b:∀i,i<N->me (some (u i)::some (v i)::c) A=.ok (g i) A):
  ∀(f i:Nat)(x y:Option W)(a:List W),i+f=N->a.length+f<=zX->∃ρ,qZ j (jZ 0 1) (zT (.bl true)) (qw me) f i (x::y::c) a A=.ok (ρ,a++(List.range' i f).map g) A:=by
 intro f
 induction f with
 |zero=>
  intro i x y a h l
  have:i=N:=by lia
  subst this;refine⟨x::y::c,?_⟩;unfold qZ;rw[H];simp
 |succ f I=>
  intro i x y a h l;obtain⟨ρ,e⟩:=I (i+1) (some (u i)) (some (v i)) (a++[g i]) (by lia) (by rw[aw,aX];lia)
  refine⟨ρ,?_⟩;rw[qZ,t i (by lia)]
  dsimp only;rw[show jZ 0 1 (.tup [u i,v i]) (x::y::c)=some (some (u i)::some (v i)::c) from rfl]
  dsimp only[zT];rw[zJ];dsimp only;have E:qw me (some (u i)::some (v i)::c) a A=.ok (some (u i)::some (v i)::c,a++[g i]) A:=by unfold qw;rw[b i (by lia),zJ,ai (by lia)]
  rw[E,zJ];rw[e,aP,range'_succ,aR]
  rfl
def P2 {N:Nat}{u v g:Nat->W}(f:mi ρ A=.ok j A)(b:j.len=N)(d:N<=1000)(H:∀i,i<N->j.at_ A i=some (some (.tup [u i,v i])))(h:j.at_ A N=some none)
  (l:∀i,i<N->me (some (u i)::some (v i)::cap.map λi=>(ρ[i]?).join) A=.ok (g i) A):qD 2 cap mi (jZ 0 1) jl (qw me) ρ A=.ok ((List.range N).map g) A:=by
 obtain⟨a,e⟩:=Dp (A:=A) (c:=cap.map λi=>(ρ[i]?).join) H h l N 0 none none [] (by lia) (by unfold zX;simp;lia)
 unfold qD;rw[f,zJ,b];show R.bind (R.nox (qZ j _ _ _ N 0 (none::none::cap.map λi=>(ρ[i]?).join) [] A)) _=_;rw[e,<- range_eq_range',bK]
 rfl
def Zf {r:R α}{a:α}(h:r=.ok a A):r.nox=.ok a A:=by rw[h];rfl
def Nx {m:Ex}{w:W}(h:m (ws.map some++List.replicate (n-ws.length) none) A=.ok (.rt w) A1):wK n m ws A=.ok w A1:=by unfold wK;rw[h];rfl
def Xd {m:Ex}(h:m (ws.map some++List.replicate (n-ws.length) none) A=.ok (.nx ρ) A1):wK n m ws A=.ok .non A1:=by unfold wK;rw[h];rfl
def wX {M a:Ex}(h:M ρ A=.exc x A1):zG M a ρ A=.exc x A1:=by unfold zG;rw[h,Nf]
def YV {m:Ev}(h:m ρ A=.exc x A1):wg m ρ A=.exc x A1:=by unfold wg;rw[h,Nf]
def Z1 {m:Ex}(h:m (ws.map some++List.replicate (n-ws.length) none) A=.exc x A1):wK n m ws A=.exc x A1:=by unfold wK;rw[h];rfl
def OM {m M:Ev}{us vs:List W}(h:m ρ A=.ok (.tup us) A)(H:M ρ A=.ok (.tup vs) A):Zj m M ρ A=.ok (wN (.tup us) (.tup vs) us.length) A:=by
 unfold Zj;rw[h,zJ,H,zJ]
 rfl
def EH {a:Ea}{x y:List W}{r:Nat}{u e:Option W}(H:A[r]? =some (.lst x))(h:a [u,e,none,rO r] A=.ok y A)(l:x.length+y.length<=100):
  qA 3 (zm qJ qb (qO a)) [u,e,none,rO r] A=.ok (.nx [u,e,none,rO (A.length+1)]) (A++[.lst y]++[.lst (x++y)]):=by
 refine(qj ((zE (zi (i:=3) rfl) (jB h)).trans (K1 (jx H) qN (by unfold zX;lia)))).trans ?_
 rw[aw,aX]
 rfl
def C6 {a:Ea}{x y zs:List W}{L:Hx}{j:Nat}{u e:Option W}(c:L[j]? =some (.lst x))(b:∀m A,a [u,e,none,m] A=.ok y A)(H:x.length+y.length<=100)(h:x++y=zs):
  qA 3 (zm qJ qb (qO a)) [u,e,none,rO (A.length+j)] (A++L)=.ok (.nx [u,e,none,rO (A.length+(L.length+1))]) (A++(L++[.lst y,.lst zs])):=by
 have d:(A++L)[A.length+j]? =some (.lst x):=by rw[au (by lia),show A.length+j-A.length=j by lia];exact c
 rw[EH d (b _ _) H,h,aw,aP,aP,Nat.add_assoc]
 rfl
noncomputable def ZQ (i a n:Nat):List W:=(List.range' a n).map λk=>W.bl (decide (k=i))
def TC {f:Fn}{u:List W}{k:Nat}(n:qR u=true)(h:f u []=.ok (.ref k) A1)(H:A1[k]? =some (.lst ws))(a:qR ws=true):iso f u A=.ok (.ref A.length) (A++[.lst ws]):=by unfold iso;rw[ai n,h];dsimp only;rw[H];dsimp only;rw[ai a]
end G
namespace Mi
open PySem L2
section
variable {c:En}{f:Nat}{x:Option W}{w y:W}{acc:List W}{m:Ev}
def QY (h:n<1000000):jG (n:Int)=true:=by unfold jG;rw[ak,ao,ao];lia
def Dy (h:j.at_ A i=some none):qZ j (zQ 0) (zT (.bl true)) (qw me) f i ρ acc A=.ok (ρ,acc) A:=by cases f<;>(unfold qZ;rw[h])
def Ou (h:j.at_ A i=some (some w))(a:me (some w::c) A=.ok y A1)(H:acc.length<zX):qZ j (zQ 0) (zT (.bl true)) (qw me) (f+1) i (x::c) acc A=qZ j (zQ 0) (zT (.bl true)) (qw me) f (i+1) (some w::c) (acc++[y]) A1:=by
 rw[qZ,h];dsimp only[zQ,List.set,zT];rw[zJ];dsimp only;have e:qw me (some w::c) acc A=.ok (some w::c,acc++[y]) A1:=by unfold qw;rw[a,zJ,ai H]
 rw[e,zJ]
def lx (h:m ρ A=.ok (.ref n) A1)(H:A1[n]? =some (.lst ws)):q9 m ρ A=.ok ⟨λA i=>(zW (.ref n) A).map λws=>ws[i]?,ws.length⟩ A1:=by
 unfold q9 WM;rw[h,zJ];have e:zW (.ref n) A1=some ws:=by unfold zW;dsimp only;rw[H]
 rw[e]
def Rb (h:A[n]? =some (.lst ws)):((zW (.ref n) A).map λws=>ws[i]?)=some ws[i]?:=by
 have e:zW (.ref n) A=some ws:=by unfold zW;dsimp only;rw[h]
 rw[e];rfl
def GP {g:W->Option PyData}{d:PyData}{D:List PyData}(h:g w=some d)(r:yF g ws=some D):yF g (w::ws)=some (d::D):=by unfold yF;rw[h,r]
def YT {k:Nat}{v:Int}(h:A[n]? =some (.lst [.int v])):qC A (k+1) (.ref n)=some (.list [.int v]):=by
 unfold qC;have e:zW (.ref n) A=some [.int v]:=by unfold zW;dsimp only;rw[h]
 rw[e];cases k<;>rfl
def OW {k:Nat}{d:List PyData}(h:A[n]? =some (.lst ws))(H:yF (qC A k) ws=some d):qC A (k+1) (.ref n)=some (.list d):=by
 unfold qC;have e:zW (.ref n) A=some ws:=by unfold zW;dsimp only;rw[h]
 rw[e];dsimp only;rw[H]
 rfl
def Lv {a b:W}{d:PyData}(c:qC A 8 a=some d)(H:qC A 8 b=some d)(h:PyData.eqv d d=true):ju a b A=.ok (.bl false) A:=by
 show gi true a b A=_;unfold gi;rw[c,H];dsimp only;rw[ai rfl,h]
 rfl
end
end Mi
namespace G
open PySem L2 Mi
section
def lz (a:A[0]? =some (.ro (ns.map W.int)))(k:Nat):∃x:Int,V9 [.ref 0,.int k] A=.ok (.int x) A:=by
 have H:zW (.ref 0) A=some (ns.map W.int):=by unfold zW;dsimp only;rw[a]
 have l:mQ qu (qa zI) [rO 0,iV k] A=.ok (.int ns.length) A:=by rw[j0 (yL (w:=.ref 0) (A1:=A) (zi rfl) H)];unfold qu;rw[ag]
 have e:zm VG zD (mQ qu (qa zI)) [rO 0,iV k] A=.ok (.bl (decide ((k:Int)<ns.length))) A:=(zE (zi (w:=.int k) rfl) l).trans rfl
 by_cases h:k<ns.length
 ·refine⟨ns[k],qM ?_⟩
  dsimp only[Gk,mq];rw[ay (by lia)]at e
  refine qh ((yC e).trans (qh (qH ?_)));refine(zE (x:=.ref 0) (y:=.int k) (A1:=A) (A2:=A) (zi rfl) (zi rfl)).trans ?_;unfold zH;rw[H];dsimp only;rw[Xv (v:=.int ns[k]) (by rw[ax,ae h];rfl)]
 ·refine⟨0,qM ?_⟩
  dsimp only[Gk,mq];rw[aG (by lia)]at e
  exact(zA ((jT e).trans rfl)).trans rfl
def lA (H:A[0]? =some (.ro (ns.map W.int)))(k:Nat):∃o,Yn [.ref 0,.int k] A=.ok (.ref A.length) (A++[o])/\qQ A.length (A++[o]):=by
 obtain⟨x,e⟩:=lz H k;have a:qA 2 (zO V9 (zj zI (zj zD zw))) [rO 0,iV k,none] A=.ok (.nx [rO 0,iV k,iV x]) A:=by refine(qj (w:=.int x) (A1:=A) ?_).trans rfl;rw[zM (ws:=[.ref 0,.int k]) (A1:=A) rfl];exact e
 have E:zm Im qg (zm Kj JY (zT (.int 18))) [rO 0,iV k,iV x] A=.ok (.bl (decide ((1000000000000000000:Int)<=x))) A:=(zE (x:=.int x) (y:=.int 1000000000000000000) (A1:=A) (A2:=A) (zi rfl) rfl).trans rfl
 by_cases h:(1000000000000000000:Int)<=x
 ·refine⟨.lst [.int (x-1000000000000000000),.bl true],qM ?_,x-1000000000000000000,true,qN,by lia,λz=>nomatch z⟩
  dsimp only[Gz,mq];rw[ay h]at E;refine(zA a).trans (qh ((yC E).trans (qh (qH (jB ?_)))))
  rfl
 ·refine⟨.lst [.int (x%2147483647),.bl false],qM ?_,x%2147483647,false,qN,emod_nonneg _ (by decide),λ_=>bJ _ (by decide)⟩
  dsimp only[Gz,mq];rw[aG h]at E;refine(zA a).trans ((zA ((jT E).trans rfl)).trans (qh (qH (jB ?_))));refine zr (A1:=A) (A2:=A) ((zE (x:=.int x) (y:=.int 2147483647) (A1:=A) (A2:=A) (zi rfl) rfl).trans (JG (by decide))) rfl
variable {w:W}
def AW (h:qi t)(A:Hx):gA [zp t] A=.ok (.bl true) A:=AY h A
def Ap (h:Jm A w):gA [w] A=.ok (.bl false) A:=h A λ_ _ z=>z
def Ow (h:qi t)(A:Hx):V0 [zp t] A=.ok .non A:=by refine Xd (ρ:=[some (zp t)]) ?_;dsimp only[Gh];refine(zA (ρ1:=[some (zp t)]) (A1:=A) ((jT (A1:=A) ?_).trans rfl)).trans rfl;exact Zf (yM (k:=true) ((zM (ws:=[zp t]) (A1:=A) rfl).trans (AW h A)))
def Dl (h:Jm A w):V0 [w] A=.exc "NoTable" A:=by refine Z1 ?_;dsimp only[Gh];exact wX ((yC (A1:=A) (Zf (yM (k:=false) ((zM (ws:=[w]) (A1:=A) rfl).trans (Ap h))))).trans (wX rfl))
variable {a b k:Nat}
def lB {ty:Ty}(h:jq w A=some ty):(kq ty .int&&!kq ty .bl)=yH w:=by
 cases w with
 |ref k=>
  unfold jq at h;dsimp only at h
  split at h
  ·cases h;rfl
  ·cases h;rfl
  ·cases h
 |clo _ _ _=>cases h|xc _=>cases h|fn _=>cases h|_=>cases h;rfl
def WD {a b:Ev}{p q:Bool}(h:a ρ A=.ok (.bl p) A)(H:b ρ A=.ok (.bl q) A):kP a b ρ A=.ok (.bl (p&&q)) A:=by
 cases p with|true=>exact(Z7 h).trans H|false=>exact Qv h
def N8 {ty:Ty}(h:jq w A=some ty):Ju [w] A=.ok (.bl (yH w)) A:=by unfold Ju UG;dsimp only[UI,mq];refine qM (qh (qH ((WD (Je (zi rfl) h) (yM (Je (zi rfl) h))).trans ?_)));rw[lB h]
def lC (h:qi t)(a:ρ[i]? =some (some (zp t))):mQ gh (qD 1 [] (q9 (zU i)) (zQ 0) jl (qw (mQ gh (qa zI)))) ρ A=.ok (.int (qf t-1)) A:=by
 have n:=h.n8;have e:=G2 (cap:=[]) (A:=A) (ρ:=ρ) (o:=t) (f:=zo) (m:=zU i) (me:=mQ gh (qa zI)) (G:=λr=>.int (kz r)) (zi a) (by unfold zX;lia) (λr H=>(j0 (yL (w:=zo r) (ws:=r.map W.int) (A1:=A) (zi rfl) rfl)).trans (Tj (h.row_ne H)))
 have E:(t.map λr=>W.int (kz r))=(t.map kz).map W.int:=by rw[aW];rfl
 rw[E]at e;refine((j0 e).trans (Tj h.map_ne)).trans ?_
 have:qf t-1=kz (t.map kz):=by unfold qf;lia
 rw[this]
def JB (h:qi t)(A:Hx):Yk [zp t] A=.ok (.int (qf t)) A:=by
 refine gI (A1:=[]) (ZN t) rfl (qM ?_);dsimp only[Ug,mq];refine qh (qH ((zE (lC h rfl) zN).trans ?_));show R.ok (W.int (qf t-1+1)) []=_
 congr 2
 lia
def len_tab (h:ρ[i]? =some (some (zp t))):mQ qu (qa (zU i)) ρ A=.ok (.int t.length) A:=by
 have:=Jb (ws:=t.map zo) (A:=A) h
 rw[ag]at this;exact this
end
section
variable {N b:Nat}
def lD {g:Nat->Int}{k:Int}(h:b<N):((List.range N).map λj=>W.int (g j)).set b (.int k)=(List.range N).map λj=>W.int (if j=b then k else g j):=by
 apply ext_getElem?
 intro i
 by_cases H:i<N
 ·by_cases q:b=i
  ·subst q
   rw[ar (by simpa using H),ax,aU H]
   simp
  ·rw[av q,ax,ax,aU H]
   simp[Ne.symm q]
 ·rw[aD (by simp;lia),aD (by simp;lia)]
end
structure LC (K:Nat)(μ:Nat->Nat->Int)(C:Hx):Prop where
 top:C[2 * K]? =some (.lst ((List.range K).map λi=>W.ref (2 * i+1)))
 row:∀i,i<K->C[2 * i+1]? =some (.lst ((List.range K).map λj=>W.int (μ i j)))
section
variable {K a b j:Nat}{μ:Nat->Nat->Int}{C:Hx}
def LC.put (h:LC K μ C)(f:i<K)(e:j<K)(k:Int):∃b,wQ (.ref (2 * i+1)) (.int j) (.int k) C=.ok () b/\LC K (J6 μ i j k) b:=by
 have r:=h.row i f;have H:=jS r;refine⟨_,Ad r (by simp;lia),?_,λc d=>?_⟩
 ·rw[av (by lia)];exact h.top
 ·by_cases q:c=i
  ·subst q
   rw[ar H,lD e]
   congr 3
   funext a
   unfold J6
   by_cases z:a=j
   ·rw[ai z,ai ⟨rfl,z⟩]
   ·rw[aj z,aj (by rintro⟨_,w⟩;exact z w)]
  ·rw[av (by lia),h.row c d]
   congr 3
   funext a
   unfold J6;rw[aj (by rintro⟨w,_⟩;exact q w)]
def LC.aug (h:LC K μ C){mo mi:Ev}(o:mo ρ C=.ok (.ref (2 * i+1)) C)(b:mi ρ C=.ok (.int j) C)(a:i<K)(H:j<K):∃c,X1 mo mi jj ρ C=.ok (.nx ρ) c/\LC K (J6 μ i j (μ i j+1)) c:=by
 obtain⟨c,e,l⟩:=h.put a H (μ i j+1);refine⟨c,?_,l⟩;unfold X1;rw[o,zJ,b,zJ];dsimp only;rw[ai (by lia),h.row i a]
 dsimp only;rw[aA,ax,aU H];show R.bind (wQ (.ref (2 * i+1)) (.int j) (.int (μ i j+1)) C) _=_;rw[e,zJ]
def LC.ix (h:LC K μ C){m M:Ev}(b:m ρ C=.ok (.ref (2 * K)) C)(H:M ρ C=.ok (.int i) C)(a:i<K):zm zH m M ρ C=.ok (.ref (2 * i+1)) C:=
 (zE b H).trans (wH h.top (by rw[ax,aU a];rfl))
def rep1 (w:W):∀n:Nat,(List.replicate n [w]).flatten=(List.range n).map λ_=>w:=λn=>by
 rw[List.map_const',aI]
 induction n with|zero=>rfl|succ n i=>rw[a9,a7,i];rfl
def Bv (n:K<=8){x0 x1 x2 x4:Option W}{l:List (Option W)}:∃C,jP (qD 1 [3] (jU qb) (zQ 0) jl (qw (zm qE (qO (zj qB zw)) zD))) (x0::x1::x2::iO K::x4::l) []=.ok (.ref (2 * K)) C/\LC K (λ_ _=>0) C:=by
 have r:=yS (m:=zU 3) (ρ:=x0::x1::x2::iO K::x4::l) (A:=[]) (k:=(K:Int)) rfl (ZY (by lia))
 rw[aA]at r;obtain⟨g,o,B,e,_,H,h⟩:=UL (nl:=1) (cap:=[3]) (tw:=zQ 0) (ifs:=zT (.bl true)) (em:=qw (zm qE (qO (zj qB zw)) zD)) (N:=K)
  (I:=λi p o B=>(∃y,p=[y,iO K])/\(B.length=2 * i/\∀c,c<i->B[2 * c+1]? =some (.lst ((List.range K).map λj=>W.int 0)))/\o=(List.range i).map λc=>W.ref (2 * c+1)) r rfl
  (λi p o B b ⟨⟨y,a⟩,⟨d,H⟩,h⟩=>by
   subst a h;refine⟨_,_,yh b,rfl,.inl ⟨B,_,_,B++[.lst [.int 0]]++[.lst ((List.range K).map λj=>W.int 0)],rfl,UX (y:=.ref (2 * i+1)) ?_ (by rw[ag,aI];unfold zX;lia),⟨_,rfl⟩,⟨by simp;lia,λc f=>?_⟩,by rw[bf,aN];rfl⟩⟩
   ·refine(zE (jB (zr zN zF)) (zi (i:=1) (w:=.int K) rfl)).trans ?_
    unfold qE;dsimp only;rw[qN];dsimp only;rw[ai (by rw[ZY (by lia),aA];simp;unfold zX;lia),aA,aw,d,rep1]
    rfl
   ·by_cases q:c=i
    ·subst q
     rw[au (by simp;lia)]
     simp[d]
    ·rw[ah (by simp;lia),ah (by lia)]
     exact H c (by lia))
  (λp o B _=>yf (by lia)) ⟨⟨none,rfl⟩,⟨rfl,λc f=>absurd f (Nat.not_lt_zero _)⟩,rfl⟩
 subst h;refine⟨B++[.lst ((List.range K).map λc=>W.ref (2 * c+1))],?_,?_,λi b=>?_⟩
 ·rw[kf e,H.1]
 ·rw[<- H.1];exact qN
 ·exact jx (H.2 i b)
def BE {m:Ev}{k:Nat}(h:m ρ A=.ok (.ref k) A)(a:A[k]? =some (.lst ws))(l:ws.length<=zX){g:W->W}(b:∀w∈ws,me (some w::cap.map λi=>(ρ[i]?).join) A=.ok (g w) A):
  qD 1 cap (q9 m) (zQ 0) jl (qw me) ρ A=.ok (ws.map g) A:=by
 have e:=gB (cap:=cap) (me:=me) (ρ:=ρ) (A:=A) (N:=ws.length) (item:=λi=>ws.getD i .non) (g:=λi=>g (ws.getD i .non)) (Jz h a) rfl l
  (λi H=>(wZ a).trans (by rw[ae H,aa,ae H];rfl))
  ((wZ a).trans (by rw[aD (aq _)]))
  (λi H=>by
   have:ws.getD i .non=ws[i]:=by rw[aa,ae H];rfl
   rw[this];exact b _ (aJ H))
 rw[e]
 congr 1
 apply a8
 ·simp
 ·intro i d c
  have H:i<ws.length:=by simpa using c
  simp[aa,ae H]
theorem LC.tup (h:LC K μ C)(d:K<=8){i:Nat}(b:ρ[i]? =some (rO (2 * K))):mQ gT (qD 1 [] (q9 (zU i)) (zQ 0) jl (qw (mQ gT (qa zI)))) ρ C=.ok (zp (jV K μ)) C:=by
 have e:=BE (cap:=[]) (ws:=(List.range K).map λi=>W.ref (2 * i+1)) (me:=mQ gT (qa zI)) (zi b) h.top (by simp;unfold zX;lia) (g:=λw=>match w with|.ref n=>(match C[n]? with|some (.lst ws)=>.tup ws|_=>.non)|_=>.non) (λw f=>by obtain⟨c,a,rfl⟩:=cu.mp f;have H:=h.row c (cj.mp a);dsimp only;rw[H];exact Wh (yL (w:=.ref (2 * c+1)) (A1:=C) (zi rfl) (by unfold zW;dsimp only;rw[H])))
 rw[Wh e]
 congr 1
 unfold zp jV;rw[aW,aW]
 congr 1
 refine bh λc a=>?_;have H:=h.row c (cj.mp a);show(match C[2 * c+1]? with|some (.lst ws)=>W.tup ws|_=>.non)=zo ((List.range K).map (μ c))
 rw[H];unfold zo;rw[aW]
 rfl
noncomputable def shr (t:bN)(a b:Nat):Nat->Nat->Nat->Int
 |0=>λ_ _=>0|n+1=>J6 (shr t a b n) (at2 t a n).toNat (at2 t b n).toNat (shr t a b n (at2 t a n).toNat (at2 t b n).toNat+1)
def je (t:bN)(K a b:Nat):bN:=jV K (shr t a b t.length)
def JL (d:qi t)(c:qf t=(K:Int))(H:a<t.length)(h:b<t.length):((at2 t a b).toNat:Int)=at2 t a b/\(at2 t a b).toNat<K:=by have f:=Y5 d H h;have e:=Wr d H h;lia
def UP (y:qi t)(f:qf t=(K:Int))(c:a<t.length)(H:b<t.length)(A:Hx):Yj [zp t,.int a,.int b] A=.ok (zp (je t K a b)) A:=by
 have P:=y.n8;have kb:=km y;have d:((t.getD a []).map W.int).length=t.length:=by rw[ag,y.sq _ (ki c)]
 have u:((t.getD b []).map W.int).length=t.length:=by rw[ag,y.sq _ (ki H)]
 obtain⟨C,v,p⟩:=Bv (K:=K) (by lia) (x0:=some (zp t)) (x1:=iO a) (x2:=iO b) (x4:=none) (l:=[none,none])
 obtain⟨g,B,E,L,D,Y,h⟩:=yK (j:=wN (.tup ((t.getD a []).map W.int)) (.tup ((t.getD b []).map W.int)) ((t.getD a []).map W.int).length) (st:=turn (jZ 5 6) (zG (X1 (zm zH ql jX) kU jj) zS)) (N:=t.length)
  (I:=λn M B=>LC K (shr t a b n) B/\∃D Y,M=[some (zp t),iO a,iO b,iO K,rO (2 * K),D,Y])
  (λn M B J ⟨l,D,Y,h⟩=>by
   subst h;obtain⟨o,q⟩:=JL y f c J;obtain⟨i,Q⟩:=JL y f H J;obtain⟨x,e,r⟩:=l.aug (ρ:=[some (zp t),iO a,iO b,iO K,rO (2 * K),iV (at2 t a n),iV (at2 t b n)]) (mo:=zm zH ql jX) (mi:=zU 6) (l.ix (zi rfl) (zi (by rw[o];rfl)) q) (zi (by rw[i];rfl)) q Q
   refine⟨.tup [.int (at2 t a n),.int (at2 t b n)],_,x,?_,(jY rfl).trans ((zA e).trans qx),r,_,_,rfl⟩;show some (zip2 ((t.getD a []).map W.int)[n]? ((t.getD b []).map W.int)[n]?)=_;rw[int_at (by rw[y.sq _ (ki c)];exact J),int_at (by rw[y.sq _ (ki H)];exact J)]
   rfl)
  (λM B _=>by
   show some (zip2 ((t.getD a []).map W.int)[t.length]? ((t.getD b []).map W.int)[t.length]?)=_;rw[aD (by lia),aD (by lia)]
   rfl) t.length 0 [some (zp t),iO a,iO b,iO K,rO (2 * K),none,none] C (by lia) ⟨p,_,_,rfl⟩
 subst h;refine gI (A1:=B) (ZN t) (Ze _) (qM ?_);dsimp only[Ub,mq];refine(zA (qj ((zM (zr (zi rfl) zF)).trans ((JB y []).trans (by rw[f]))))).trans ?_
 refine(zA (qj v)).trans ?_;refine(zA (ρ1:=[some (zp t),iO a,iO b,iO K,rO (2 * K),D,Y]) (A1:=B) ((jC (OM ((zE (zi rfl) (zi rfl)).trans (JE c)) ((zE (zi rfl) (zi rfl)).trans (JE H)))).trans ?_)).trans (qh (qH (L.tup (by lia) rfl)))
 have:(wN (.tup ((t.getD a []).map W.int)) (.tup ((t.getD b []).map W.int)) ((t.getD a []).map W.int).length).len=t.length:=d
 rw[this];exact E
variable {w:W}
def Xq {m:Ev}{a:En}{w:W}(h:m ρ A=.ok w A1)(H:tw w ρ=some a):Ke m tw ρ A=.ok (.nx a) A1:=by unfold Ke;rw[h,zJ,H]
end
def Zx (t:bN)(a b:Nat):List (Int×Int):=(List.range t.length).map λc=>(at2 t a c,at2 t b c)
def jI (t:bN):Prop:=∀a b c e,a<t.length->b<t.length->c<t.length->e<t.length->at2 t a b=at2 t c e->(Zx t a b).Perm (Zx t c e)
def Qc (t:bN)(k:Int):Nat:=((List.range (t.length * t.length)).find? λm=>decide (at2 t (m/t.length) (m%t.length)=k)).getD 0
def Th (t:bN):Bool:=(List.range t.length).all λa=>(List.range t.length).all λb=>let m:=Qc t (at2 t a b);(Zx t a b).isPerm (Zx t (m/t.length) (m%t.length))
def Dc (h:Th t=true):jI t:=λa b c e j i g n f=>by unfold Th at h;rw[aY]at h;have l:=h a (cj.mpr j);rw[aY]at l;have o:=List.isPerm_iff.mp (l b (cj.mpr i));have d:=h c (cj.mpr g);rw[aY]at d;have H:=List.isPerm_iff.mp (d e (cj.mpr n));rw[<- f]at H;exact o.trans H.symm
def Nu {p:bT}(a:p.Nodup){u v:Nat}(H:u<=p.length)(h:v<=p.length)(e:(jf p).getD u 0=(jf p).getD v 0):u=v:=by
 by_cases c:u=0
 ·by_cases b:v=0
  ·lia
  ·exfalso
   subst c;rw[Q3 (v:=v) (by lia) h]at e
   have:(jf p).getD 0 0=0:=rfl
   lia
 ·by_cases b:v=0
  ·exfalso
   subst b;rw[Q3 (v:=u) (by lia) H]at e
   have:(jf p).getD 0 0=0:=rfl
   lia
  ·rw[Q3 (by lia) H,Q3 (by lia) h]at e
   have E:p[u-1]'(by lia)=p[v-1]'(by lia):=by lia
   have:=(getElem_inj a).mp E
   lia
section
variable {p o:bT}
def OP (H:o.Perm (List.range t.length)){a b:Nat}(d:a<t.length)(c:b<t.length):at2 (w9 t p o) a b=(jf p).getD (at2 t (o.getD a 0) (o.getD b 0)).toNat 0:=by
 have h:o.length=t.length:=by rw[H.length_eq,aI]
 unfold at2 w9;rw[aa (l:=List.map _ o),ax,ae (by lia)]
 show(List.map _ o).getD b 0=_;rw[aa,ax,ae (by lia)]
 show(jf p).getD (at2 t _ _).toNat 0=_;unfold at2;rw[aa (l:=o) (i:=a),ae (by lia),aa (l:=o) (i:=b),ae (by lia)]
 rfl
def DR {u v:bN}{f:Int->Int}(p:u.length=v.length)(n:o.Perm (List.range v.length))(j:∀a b,a<v.length->b<v.length->at2 u a b=f (at2 v (o.getD a 0) (o.getD b 0)))
  (A:∀a b c e,a<v.length->b<v.length->c<v.length->e<v.length->f (at2 v a b)=f (at2 v c e)->at2 v a b=at2 v c e)(s:jI v):jI u:=by
 have l:o.length=v.length:=by rw[n.length_eq,aI]
 have h:∀i,i<v.length->o.getD i 0<v.length:=λi x=>by
  rw[aa,ae (by lia)]
  exact cj.mp (n.mem_iff.mp (aJ _))
 have r:∀a b,a<v.length->b<v.length->(Zx u a b).Perm ((Zx v (o.getD a 0) (o.getD b 0)).map λq=>(f q.1,f q.2)):=λa b g d=>by
  unfold Zx;rw[p,aW];have t:(List.range v.length).map (λc=>(at2 u a c,at2 u b c))=(List.range v.length).map λc=>(f (at2 v (o.getD a 0) (o.getD c 0)),f (at2 v (o.getD b 0) (o.getD c 0))):=bh λc H=>by rw[j a c g (cj.mp H),j b c d (cj.mp H)]
  rw[t];have E:=KJ o 0 λc=>(f (at2 v (o.getD a 0) c),f (at2 v (o.getD b 0) c));rw[l]at E;rw[<- E];exact n.map _
 intro a b c e g d H y q;rw[p]at g d H y;rw[j a b g d,j c e H y]at q
 have:=s _ _ _ _ (h a g) (h b d) (h c H) (h e y) (A _ _ _ _ (h a g) (h b d) (h c H) (h e y) q)
 exact(r a b g d).trans ((this.map _).trans (r c e H y).symm)
def Eo (h:qi t)(g:p.Perm (List.range (qf t-1).toNat))(i:o.Perm (List.range t.length))(s:jI t):jI (w9 t p o):=by
 have l:p.length=(qf t-1).toNat:=by rw[g.length_eq,aI]
 have kb:=km h;have n:p.Nodup:=(g.nodup_iff).mpr nodup_range;have j:∀a b,a<t.length->b<t.length->(at2 t a b).toNat<=p.length/\((at2 t a b).toNat:Int)=at2 t a b:=λa b d H=>by
  have:=Y5 h d H
  have:=Wr h d H
  lia
 refine DR (f:=λv=>(jf p).getD v.toNat 0) (OI h g i).2 i (λa b d H=>OP i d H) (λa b c e d H r x q=>?_) s;have u:=j _ _ d H;have K:=j _ _ r x
 have:=Nu n u.1 K.1 q
 lia
variable {a b c e K:Nat}
theorem YD (e:qi t)(H:a<t.length)(h:b<t.length):∀n,n<=t.length->∀i j:Nat,shr t a b n i j=((((List.range n).map λc=>(at2 t a c,at2 t b c)).count ((i:Int),(j:Int)):Nat):Int)
 |0,_,i,j=>rfl|n+1,hn,i,j=>by
  have I:=YD e H h n (by lia)
  have f:=(Y5 e H (show n<t.length by lia)).1
  have K:=(Y5 e h (show n<t.length by lia)).1
  rw[bf,aN,List.count_append,List.map_singleton,List.count_singleton];show J6 (shr t a b n) (at2 t a n).toNat (at2 t b n).toNat (shr t a b n (at2 t a n).toNat (at2 t b n).toNat+1) i j=_;unfold J6
  by_cases q:i=(at2 t a n).toNat/\j=(at2 t b n).toNat
  ·rw[ai q,<- q.1,<- q.2,I,ai (by rw[aL];ext<;>simp<;>lia)]
   lia
  ·rw[aj q,I,aj (by
    rw[aL];intro z;injection z with d Z
    exact q ⟨by lia,by lia⟩)]
   lia
def OY (f:qi t)(s:jI t)(d:a<t.length)(H:b<t.length)(h:c<t.length)(g:e<t.length)(q:at2 t a b=at2 t c e):je t K a b=je t K c e:=by
 unfold je jV;refine bh λi _=>bh λj _=>?_;rw[YD f d H _ (aq _),YD f h g _ (aq _)]
 have:=(s a b c e d H h g q).count_eq ((i:Int),(j:Int))
 unfold Zx at this;rw[this]
end
def GF {st:W->Ex}{N:Nat}{I:Nat->En->Hx->Prop}{Q:W->Hx->Prop}
  (H:∀i l A,i<N->I i l A->∃w,j.at_ A i=some (some w)/\((∃ρ1 A1,st w l A=.ok (.nx ρ1) A1/\I (i+1) ρ1 A1)∨∃r A1,st w l A=.ok (.rt r) A1/\Q r A1))(d:∀l A,I N l A->j.at_ A N=some none):
  ∀(f i:Nat)(l:En)(A:Hx),i+f=N->I i l A->(∃a A',yb j st f i l A=.ok (.nx a) A'/\I N a A')∨∃r A',yb j st f i l A=.ok (.rt r) A'/\Q r A':=by
 intro f
 induction f with
 |zero=>
  intro i l A h b
  have:i=N:=by lia
  subst this;exact .inl ⟨l,A,UD (d _ _ b),b⟩
 |succ f g=>
  intro i l A h b;obtain⟨w,o,n|n⟩:=H i l A (by lia) b
  ·obtain⟨ρ1,A1,n,c⟩:=n
   rcases g (i+1) ρ1 A1 (by lia) c with ⟨a,A',e,q⟩|⟨r,A',e,q⟩
   ·exact .inl ⟨a,A',(Xa o n).trans e,q⟩
   ·exact .inr ⟨r,A',(Xa o n).trans e,q⟩
  ·obtain⟨r,A1,n,c⟩:=n
   refine .inr ⟨r,A1,?_,c⟩;unfold yb;rw[o];dsimp only;rw[n]
   rfl
noncomputable def Ki (r:bP):PyData:=.tuple (r.map .int)
def Ri (t:bN):PyData:=.tuple (t.map Ki)
theorem G4 {f:W->Option PyData}{g:α->W}{h:α->PyData}(e:∀a,f (g a)=some (h a)):∀l:List α,yF f (l.map g)=some (l.map h)
 |[]=>rfl|a::l=>by
  rw[aR,yF,e a,G4 e l]
  rfl
def lE (A:Hx)(n:Nat)(r:bP):qC A (n+1) (zo r)=some (Ki r):=by
 show(yF (qC A n) (r.map W.int)).map PyData.tuple=_;rw[G4 (h:=PyData.int) (λi=>by cases n<;>rfl)]
 rfl
def Nw (A:Hx)(n:Nat)(t:bN):qC A (n+2) (zp t)=some (Ri t):=by
 show(yF (qC A (n+1)) (t.map zo)).map PyData.tuple=_;rw[G4 (h:=Ki) (lE A n)]
 rfl
section
variable {k:Nat}{w:W}{kvs:List (Key×W)}
theorem O0 {k:Key}{w:W}:∀{K:List (Key×W)},yV k K=some w->(k,w)∈K
 |[],h=>by cases h|(j,u)::r,h=>by
  have h:(if j=k then some u else yV k r)=some w:=h
  by_cases q:j=k
  ·rw[ai q]at h;cases h;subst q;exact aF ..
  ·rw[aj q]at h;exact az _ (O0 h)
def NL {f:Fn}{u:List W}{k:Nat}(n:qR u=true)(h:f u []=.ok (.ref k) A1)(H:A1[k]? =some (.dct kvs))(a:qR (kvs.map (·.2))=true):iso f u A=.ok (.ref A.length) (A++[.dct kvs]):=by unfold iso;rw[ai n,h];dsimp only;rw[H];dsimp only;rw[ai a]
end
theorem P8:∀s t:bN,PyData.eqvAll (s.map Ki) (t.map Ki)=decide (s=t)
 |[],[]=>by simp[PyData.eqvAll]|[],_::_=>by simp[PyData.eqvAll]|_::_,[]=>by simp[PyData.eqvAll]|a::l,b::m=>by simp only[aR,PyData.eqvAll,P8 l m,Ki,PyData.eqv,P9];rw[Bool.eq_iff_iff];simp
def lF (s t:bN)(A:Hx):ju (zp s) (zp t) A=.ok (.bl (!decide (s=t))) A:=by show gi true _ _ A=_;unfold gi;rw[Nw A 6 s,Nw A 6 t];dsimp only;rw[ai rfl,Ri,Ri,PyData.eqv,P8]
def pre (n a b:Nat):List (Nat×Nat):=((List.range a).flatMap λx=>(List.range n).map λy=>(x,y))++(List.range b).map λy=>(a,y)
def Qg (n:Nat):List (Nat×Nat):=pre n n 0
section
variable {a b:Nat}
def lG:pre n a (b+1)=pre n a b++[(a,b)]:=by
 unfold pre;rw[bf,aN,<- aP]
 rfl
def lH:pre n a n=pre n (a+1) 0:=by unfold pre;rw[bf,flatMap_append];simp
def lI {x y:Nat}:(x,y)∈pre n a b↔(x<a/\y<n)∨(x=a/\y<b):=by
 unfold pre;rw[List.mem_append,List.mem_flatMap]
 constructor
 ·rintro(⟨z,h1,h2⟩|h)
  ·obtain⟨u,c,H⟩:=cu.mp h2
   cases H;exact .inl ⟨cj.mp h1,cj.mp c⟩
  ·obtain⟨u,c,H⟩:=cu.mp h
   cases H;exact .inr ⟨rfl,cj.mp c⟩
 ·rintro(⟨h1,h2⟩|⟨rfl,h⟩)
  ·exact .inl ⟨x,cj.mpr h1,cu.mpr ⟨y,cj.mpr h2,rfl⟩⟩
  ·exact .inr (cu.mpr ⟨y,cj.mpr h,rfl⟩)
def U7 {x y:Nat}:(x,y)∈Qg n↔x<n/\y<n:=by unfold Qg;rw[lI];lia
def Ai:(pre n a b).length=a * n+b:=by
 unfold pre;rw[aw,ag,aI,List.length_flatMap]
 congr 1
 rw[bh (g:=λ_=>n) (λx _=>by rw[ag,aI])]
 rw[List.map_const',List.sum_replicate_nat,aI]
variable {e:Nat}{w:W}{acc L:List (Nat×Nat)}{p q:Nat×Nat}
abbrev wc (t:bN)(p:Nat×Nat):Int:=at2 t p.1 p.2
def Ji (t:bN)(a:List (Nat×Nat))(p:Nat×Nat):List (Nat×Nat):=if a.any (λq=>decide (wc t q=wc t p)) then a else a++[p]
def yO (t:bN)(L:List (Nat×Nat)):List (Nat×Nat):=L.foldl (Ji t) []
def XC:yO t (L++[p])=Ji t (yO t L) p:=by
 unfold yO;rw[List.foldl_append]
 rfl
def snoc_ind {P:List α->Prop}(H:P [])(h:∀l a,P l->P (l++[a])):∀l,P l:=λl=>by
 have:∀l:List α,P l.reverse:=λl=>by
  induction l with|nil=>exact H|cons a l i=>rw[bH];exact h _ _ i
 have:=this l.reverse
 rwa[List.reverse_reverse]at this
def Bt:(yO t L).length<=L.length:=by
 refine snoc_ind (P:=λL=>(yO t L).length<=L.length) (aq _) (λl p i=>?_) L;rw[XC,aw,aX];unfold Ji
 split
 ·lia
 ·rw[aw,aX];lia
def O1:∀p∈yO t L,p∈L:=by
 refine snoc_ind (P:=λL=>∀p∈yO t L,p∈L) (λ_ h=>h) (λl p i=>?_) L;intro q H;rw[XC]at H;unfold Ji at H
 split at H
 ·exact bt _ (i q H)
 ·rcases cy.mp H with h|h
  ·exact bt _ (i q h)
  ·exact aQ _ h
def Bo:∀p∈L,∃q∈yO t L,wc t q=wc t p:=by
 refine snoc_ind (P:=λL=>∀p∈L,∃q∈yO t L,wc t q=wc t p) (λ_ h=>by cases h) (λl p i=>?_) L
 intro q H;rw[XC];unfold Ji;rcases cy.mp H with h|h
 ·obtain⟨r,c,b⟩:=i q h
  split
  ·exact⟨r,c,b⟩
  ·exact⟨r,bt _ c,b⟩
 ·rw[cx.mp h]
  split
  ·rename_i a
   obtain⟨r,c,b⟩:=List.any_eq_true.mp a;exact⟨r,c,of_decide_eq_true b⟩
  ·exact⟨p,aQ _ (cx.mpr rfl),rfl⟩
def j3 (t:bN)(p:Nat×Nat):Key×W:=(.inl (wc t p),.tup [.int p.1,.int p.2])
theorem Tt {v:Int}:∀acc:List (Nat×Nat),(yV (.inl v) (acc.map (j3 t))).isSome=acc.any λq=>decide (wc t q=v)
 |[]=>rfl|q::l=>by
  show(if (Sum.inl (wc t q):Key)=.inl v then some _ else yV (.inl v) (l.map (j3 t))).isSome=(decide (wc t q=v) || l.any λq=>decide (wc t q=v))
  by_cases h:wc t q=v
  ·rw[ai (by rw[h]),ay h];rfl
  ·rw[aj (λe=>h (by injection e)),aG h,Tt l,Bool.false_or]
def Be {x3:Option W}(H:acc.length<1000):
  ∃w,Wo Q1 zD jX (qP (zj qg (zj ql zw))) [some (zp t),rO 0,iO a,x3,iO b,iV (at2 t a b)] [.dct (acc.map (j3 t))]=.ok w [.dct ((Ji t acc (a,b)).map (j3 t))]:=by
 have E:Wo Q1 zD jX (qP (zj qg (zj ql zw))) [some (zp t),rO 0,iO a,x3,iO b,iV (at2 t a b)] [.dct (acc.map (j3 t))]=Q1 (.ref 0) (.int (at2 t a b)) (.tup [.int a,.int b]) [.dct (acc.map (j3 t))]:=rfl;rw[E];unfold Q1;show ∃w,(if (acc.map (j3 t)).length<zX then(match yV (.inl (at2 t a b)) (acc.map (j3 t)) with|some w=>R.ok w [.dct (acc.map (j3 t))]|none=>.ok (.tup [.int a,.int b]) [O.dct (acc.map (j3 t)++[((Sum.inl (at2 t a b):Key),W.tup [.int a,.int b])])]) else .bad)=.ok w [.dct ((Ji t acc (a,b)).map (j3 t))]
 rw[ai (by rw[ag];unfold zX;lia)]
 have h:=Tt (t:=t) (v:=at2 t a b) acc;unfold Ji;cases e:yV (.inl (at2 t a b)) (acc.map (j3 t)) with
 |some w=>
  rw[e]at h;rw[ai (show(acc.any λq=>decide (wc t q=wc t (a,b)))=true from h.symm)]
  exact⟨w,rfl⟩
 |none=>
  rw[e]at h;rw[aj (show ¬(acc.any λq=>decide (wc t q=wc t (a,b)))=true from λz=>by have z:=h.trans z;cases z)]
  exact⟨_,by rw[aN];rfl⟩
def Ny (v:qi t):Pq [zp t] []=.ok (.ref 0) [.dct ((yO t (Qg t.length)).map (j3 t))]:=by
 have x:=v.n8;have c:(t.map zo).length=t.length:=ag ..;have n:∀a b,a<t.length->b<t.length->(yO t (pre t.length a b)).length<1000:=λa b f p=>by
  have D:=Bt (t:=t) (L:=pre t.length a b);rw[Ai]at D
  have:a * t.length<=8 * 8:=mul_le_mul (by lia) x
  lia
 obtain⟨g,B,e,H,l,i,r,q,h⟩:=yK (j:=kR (zp t) t.length) (st:=turn (jZ 2 3) (zG (jM (Jd qb) (jZ 4 5) (zG (wg (Wo Q1 zD jX (qP (zj qg (zj ql zw))))) zS)) zS)) (N:=t.length)
  (I:=λa u B=>B=[.dct ((yO t (pre t.length a 0)).map (j3 t))]/\∃l i r q,u=[some (zp t),rO 0,l,i,r,q])
  (λa u B f ⟨H,l,i,r,q,h⟩=>by
   subst H h;have o:=v.sq _ (ki f);have d:((t.getD a []).map W.int).length=t.length:=by rw[ag,o]
   obtain⟨g,B,e,H,Y,y,h⟩:=yK (j:=kR (.tup ((t.getD a []).map W.int)) ((t.getD a []).map W.int).length) (st:=turn (jZ 4 5) (zG (wg (Wo Q1 zD jX (qP (zj qg (zj ql zw))))) zS)) (N:=t.length)
    (I:=λb u B=>B=[.dct ((yO t (pre t.length a b)).map (j3 t))]/\∃r q,u=[some (zp t),rO 0,iO a,some (zo (t.getD a [])),r,q])
    (λb u B p ⟨H,r,q,h⟩=>by subst H h;obtain⟨w,e⟩:=Be (a:=a) (b:=b) (x3:=some (zo (t.getD a []))) (n a b f p);rw[<- XC,<- lG]at e;exact⟨_,_,_,Ka (int_at (by lia)),(jY rfl).trans ((zA (kj e)).trans qx),rfl,_,_,rfl⟩)
    (λu B _=>by have:=YY (A:=B) (ws:=(t.getD a []).map W.int);rw[d]at this ⊢;exact this) t.length 0 [some (zp t),rO 0,iO a,some (zo (t.getD a [])),r,q] _ (by lia) ⟨rfl,_,_,rfl⟩
   rw[lH]at H;subst H h;refine⟨.tup [.int a,zo (t.getD a [])],[some (zp t),rO 0,iO a,some (zo (t.getD a [])),Y,y],_,?_,(jY (ρ1:=[some (zp t),rO 0,iO a,some (zo (t.getD a [])),r,q]) rfl).trans ((zA ((jC (YA (zi rfl))).trans ?_)).trans qx),rfl,_,_,_,_,rfl⟩
   ·have:=Ka (A:=[O.dct ((yO t (pre t.length a 0)).map (j3 t))]) (Wn f)
    rw[c]at this;exact this
   ·have:(kR (.tup ((t.getD a []).map W.int)) ((t.getD a []).map W.int).length).len=t.length:=d
    rw[this];exact e)
  (λu B _=>by have:=YY (A:=B) (ws:=t.map zo);rw[c]at this;exact this) t.length 0 [some (zp t),rO 0,none,none,none,none] [.dct []] (by lia)
  ⟨rfl,_,_,_,_,rfl⟩
 subst H h;refine qM ?_;dsimp only[Ud,mq];refine(zA (qj (w:=.ref 0) (A1:=[.dct []]) rfl)).trans ?_;have C:Jd zI [some (zp t),rO 0,none,none,none,none] [.dct []]=.ok (kR (zp t) t.length) [.dct []]:=by
  have:=YA (m:=zU 0) (ρ:=[some (zp t),rO 0,none,none,none,none]) (A:=[.dct []]) (A1:=[.dct []]) (ws:=t.map zo) (zi rfl)
  rw[c]at this;exact this
 exact(zA ((jC C).trans e)).trans (qh (qH (zi rfl)))
def Sx:qR ((acc.map (j3 t)).map (·.2))=true:=by
 induction acc with|nil=>rfl|cons p l i=>exact i
end
section
variable {a b K:Nat}
abbrev Ig:Ex:=zG (jk (kP (zm jQ Jk zD) (zm ju (zO Yj (zj zI (zj jX (zj wC zw)))) ql)) (zG (gm (qP (zj qg (zj qb (zj jX (zj wC zw)))))) zS) zS) zS
abbrev RI:Ex:=zG (jM (Jd kU) (jZ 7 8) Ig) zS
abbrev Ir:Ex:=zG (qA 4 (zO Yj (zj zI (zj qg (zj qb zw))))) (zG (jM (Jd zI) (jZ 5 6) RI) zS)
abbrev fq (t:bN)(K a b:Nat)(d c Y y:Option W):En:=[some (zp t),iV (at2 t a b),iO a,iO b,some (zp (je t K a b)),d,c,Y,y]
def BS (ht:qi t)(P:qf t=(K:Int))(s:jI t)(A:Hx):KH [zp t] A=.ok .non A:=by
 have n8:=ht.n8;have kb:=km ht;have d:(t.map zo).length=t.length:=ag ..;have Q:=Ny ht;generalize E:yO t (Qg t.length)=ps at Q;have L:∀p∈ps,p.1<t.length/\p.2<t.length:=λp J=>U7.mp (O1 (t:=t) p (by rw[E];exact J))
 have inner:∀{a b:Nat},a<t.length->b<t.length->∀{y5 y6 y7 y8:Option W},∃v u f Z,yb (kR (zp t) t.length) (turn (jZ 5 6) RI) t.length 0 (fq t K a b y5 y6 y7 y8) []=.ok (.nx (fq t K a b v u f Z)) []:=λ {a b} l g {y5 y6 y7 y8}=>by
  obtain⟨n,B,e,H,v,u,f,Z,h⟩:=yK (j:=kR (zp t) t.length) (st:=turn (jZ 5 6) RI) (N:=t.length) (I:=λ_ X B=>B=[]/\∃y5 y6 y7 y8,X=fq t K a b y5 y6 y7 y8)
   (λc X B x ⟨H,y5,y6,y7,y8,h⟩=>by
    subst H h;have D:=ht.sq _ (ki x);have q:((t.getD c []).map W.int).length=t.length:=by rw[ag,D]
    obtain⟨n,B,e,H,f,Z,h⟩:=yK (j:=kR (.tup ((t.getD c []).map W.int)) ((t.getD c []).map W.int).length) (st:=turn (jZ 7 8) Ig) (N:=t.length) (I:=λ_ X B=>B=[]/\∃y7 y8,X=fq t K a b (iO c) (some (zo (t.getD c []))) y7 y8)
     (λe X B he ⟨H,y7,y8,h⟩=>by
      subst H h;have T:zm jQ Jk zD (fq t K a b (iO c) (some (zo (t.getD c []))) (iO e) (iV (at2 t c e))) []=.ok (.bl (decide (at2 t c e=at2 t a b))) []:=(zE (zi rfl) (zi rfl)).trans (wU _ _ []);have S:zm ju (zO Yj (zj zI (zj jX (zj wC zw)))) ql (fq t K a b (iO c) (some (zo (t.getD c []))) (iO e) (iV (at2 t c e))) []=.ok (.bl (!decide (je t K c e=je t K a b))) []:=(zE ((zM (zr (zi rfl) (zr (zi rfl) (zr (zi rfl) zF)))).trans (UP ht P x he [])) (zi rfl)).trans (lF _ _ _);have r:=WD T S;have hf:(decide (at2 t c e=at2 t a b)&&!decide (je t K c e=je t K a b))=false:=by
       by_cases z:at2 t c e=at2 t a b
       ·rw[ay (OY (K:=K) ht s x he l g z),Bool.not_true,Bool.and_false]
       ·rw[aG z];rfl
      rw[hf]at r;exact⟨_,_,[],Ka (int_at (by lia)),(jY rfl).trans ((zA ((jT r).trans qx)).trans qx),rfl,_,_,rfl⟩)
     (λX B _=>by have:=YY (A:=B) (ws:=(t.getD c []).map W.int);rw[q]at this ⊢;exact this) t.length 0 (fq t K a b (iO c) (some (zo (t.getD c []))) y7 y8) [] (by lia) ⟨rfl,_,_,rfl⟩
    subst H h;refine⟨.tup [.int c,zo (t.getD c [])],fq t K a b (iO c) (some (zo (t.getD c []))) f Z,[],?_,(jY rfl).trans ((zA ((jC (YA (m:=zU 6) (ws:=(t.getD c []).map W.int) (zi rfl))).trans ?_)).trans qx),rfl,_,_,_,_,rfl⟩
    ·have:=Ka (A:=[]) (Wn x)
     rw[d]at this;exact this
    ·rw[show(kR (.tup ((t.getD c []).map W.int)) ((t.getD c []).map W.int).length).len=t.length from q]
     exact e)
   (λX B _=>by have:=YY (A:=B) (ws:=t.map zo);rw[d]at this;exact this) t.length 0 (fq t K a b y5 y6 y7 y8) [] (by lia) ⟨rfl,_,_,_,_,rfl⟩
  subst H h;exact⟨_,_,_,_,e⟩
 obtain⟨n,B,e,H,C,Y,y,y4,y5,y6,y7,y8,h⟩:=yK (j:=Km (ps.map (j3 t))) (st:=turn (XU 1 2 3) Ir) (N:=ps.length) (I:=λ_ X B=>B=[]/\∃C Y y y4 y5 y6 y7 y8,X=[some (zp t),C,Y,y,y4,y5,y6,y7,y8])
  (λi X B M ⟨H,C,Y,y,y4,y5,y6,y7,y8,h⟩=>by
   subst H h;obtain⟨l,g⟩:=L ps[i] (aJ M);generalize J:ps[i]=p at l g;obtain⟨a,b⟩:=p;dsimp only at l g;obtain⟨v,u,f,Z,e⟩:=inner l g (y5:=y5) (y6:=y6) (y7:=y7) (y8:=y8);have hm:=YA (m:=zU 0) (ρ:=fq t K a b y5 y6 y7 y8) (A:=[]) (A1:=[]) (ws:=t.map zo) (zi rfl);rw[d]at hm;refine⟨.tup [.int (at2 t a b),.tup [.int a,.int b]],fq t K a b v u f Z,[],?_,(jY (ρ1:=[some (zp t),iV (at2 t a b),iO a,iO b,y4,y5,y6,y7,y8]) rfl).trans ((zA (ρ1:=fq t K a b y5 y6 y7 y8) (A1:=[]) ((qj ((zM (zr (zi rfl) (zr (zi rfl) (zr (zi rfl) zF)))).trans (UP ht P l g []))).trans rfl)).trans ((zA ((jC hm).trans e)).trans qx)),rfl,_,_,_,_,_,_,_,_,rfl⟩;show some ((ps.map (j3 t))[i]?.map λp=>W.tup [kW p.1,p.2])=_;rw[ax,ae M,J]
   rfl)
  (λX B _=>by
   show some ((ps.map (j3 t))[ps.length]?.map λp=>W.tup [kW p.1,p.2])=_;rw[aD (by rw[ag];exact aq _)]
   rfl) ps.length 0 [some (zp t),none,none,none,none,none,none,none,none] [] (by lia) ⟨rfl,_,_,_,_,_,_,_,_,rfl⟩
 have hit:XI (zO Gp (zj zI zw)) [some (zp t),none,none,none,none,none,none,none,none] []=.ok (Km (ps.map (j3 t))) []:=by unfold XI;dsimp only;have U:zO Gp (zj zI zw) [some (zp t),none,none,none,none,none,none,none,none] []=.ok (.ref 0) [.dct (ps.map (j3 t))]:=(zM (zr (zi rfl) zF)).trans (NL (ZN t) Q rfl Sx);rw[U,zJ];exact ai Sx
 have o:=jC (tw:=XU 1 2 3) (m1:=Ir) hit;rw[show(Km (ps.map (j3 t))).len=ps.length from ag ..]at o
 subst H h;refine gI (A1:=[]) (ZN t) rfl (qM ?_);dsimp only[V7,mq];exact(zA (o.trans e)).trans (qh (qH zN))
variable {e k:Nat}{w x z:W}{S:Nat->List (bP)}
def lJ (u:qi t)(n:qf t=(K:Int))(l:k<K):∃a b:Nat,a<t.length/\b<t.length/\at2 t a b=(k:Int)/\yV (.inl (k:Int)) ((yO t (Qg t.length)).map (j3 t))=some (.tup [.int a,.int b]):=by
 obtain⟨a,b,g,f,e⟩:=Qu u (v:=k) (by lia)
 obtain⟨q,h,j⟩:=Bo (t:=t) (a,b) (U7.mpr ⟨g,f⟩);have r:=Tt (t:=t) (v:=(k:Int)) (yO t (Qg t.length));rw[show(yO t (Qg t.length)).any (λq=>decide (wc t q=(k:Int)))=true from List.any_eq_true.mpr ⟨q,h,ay (j.trans e)⟩]at r
 obtain⟨w,o⟩:=Option.isSome_iff_exists.mp r;obtain⟨p,H,c⟩:=cu.mp (O0 o);obtain⟨d,Z⟩:=U7.mp (O1 p H);unfold j3 at c;injection c with E i
 injection E with E
 exact⟨p.1,p.2,d,Z,E,by rw[o,i]⟩
def Ci (y:qi t)(c:qf t=(K:Int))(j:∀a b,a<t.length->b<t.length->je t K a b=S (at2 t a b).toNat)(A:Hx):Gs [zp t] A=.ok (.ref A.length) (A++[.lst ((List.range K).map λk=>zp (S k))]):=by
 have J:=y.n8;have kb:=km y;have E:=Ny y;have I:∀k:Nat,∃q:Nat×Nat,k<K->q.1<t.length/\q.2<t.length/\at2 t q.1 q.2=(k:Int)/\yV (.inl (k:Int)) ((yO t (Qg t.length)).map (j3 t))=some (.tup [.int q.1,.int q.2]):=λk=>by
  by_cases f:k<K
  ·obtain⟨a,b,C,B,d,l⟩:=lJ y c f
   exact⟨(a,b),λ_=>⟨C,B,d,l⟩⟩
  ·exact⟨(0,0),λz=>absurd z f⟩
 obtain⟨x,H⟩:=Classical.axiomOfChoice I;have nr:=Sx (t:=t) (acc:=yO t (Qg t.length));generalize (yO t (Qg t.length)).map (j3 t)=kvs at E H nr;have r:zO Gp (zj zI zw) [some (zp t),none,none] []=.ok (.ref 0) [.dct kvs]:=(zM (zr (zi rfl) zF)).trans (NL (ZN t) E rfl nr);have D:=yS (m:=zO Yk (zj zI zw)) (ρ:=[some (zp t),rO 0,none]) (A:=[.dct kvs]) (A1:=[.dct kvs]) (k:=(K:Int)) ((zM (zr (zi rfl) zF)).trans ((JB y _).trans (by rw[c]))) (ZY (by lia))
 rw[aA]at D;have p:=gB (cap:=[1]) (me:=zm SY zD zI) (ρ:=[some (zp t),rO 0,none]) (A:=[.dct kvs]) (N:=K) (item:=λi=>.int (0+(i:Int))) (g:=λk=>.tup [.int ((x k).1:Int),.int ((x k).2:Int)]) D rfl (by unfold zX;lia) (λi h=>yh h) (yf (by lia)) (λi h=>by
  refine(zE (zi (i:=1) (w:=.ref 0) rfl) (zi (i:=0) (w:=.int (0+(i:Int))) rfl)).trans ?_;rw[Int.zero_add];show(match yV (.inl (i:Int)) kvs with|some w=>R.ok w [.dct kvs]|none=>.bad)=_
  rw[(H i h).2.2.2])
 have e:=kf p;have o:=P2 (A:=[.dct kvs]++[.lst ((List.range K).map λk=>.tup [.int ((x k).1:Int),.int ((x k).2:Int)])]) (cap:=[0]) (ρ:=[some (zp t),rO 0,rO 1]) (me:=zO Yj (zj qg (zj zI (zj zD zw)))) (mi:=q9 qg) (N:=K) (u:=λk=>.int ((x k).1:Int)) (v:=λk=>.int ((x k).2:Int)) (g:=λk=>zp (S k)) (Jz (n:=1) (zi rfl) rfl) (by show((List.range K).map _).length=K;rw[ag,aI]) (by lia)
  (λi h=>lh (n:=1) rfl (by rw[ax,aU h];rfl))
  (lj (n:=1) rfl (by rw[ag,aI];exact aq _))
  (λi h=>by obtain⟨C,B,d,_⟩:=H i h;refine(zM (ws:=[zp t,.int ((x i).1:Int),.int ((x i).2:Int)]) (zr (zi rfl) (zr (zi rfl) (zr (zi rfl) zF)))).trans ((UP y c C B _).trans ?_);rw[j _ _ C B,d,aA])
 refine TC (k:=2) (A1:=[.dct kvs]++[.lst ((List.range K).map λk=>.tup [.int ((x k).1:Int),.int ((x k).2:Int)])]++[.lst ((List.range K).map λk=>zp (S k))]) (ZN t) (qM ?_) rfl (Q4 (λ_=>Ze _) _);dsimp only[Um,mq];exact(zA (qj r)).trans ((zA (qj e)).trans (qh (qH (kf o))))
def lK (H:qi t)(h:qf t=(K:Int))(s:jI t)(A:Hx):ZU [zp t] A=.ok .non A:=by refine Xd (ρ:=[some (zp t)]) ?_;dsimp only[KG];exact(zA (kj ((zM (zr (zi rfl) zF)).trans (Ow H A)))).trans ((zA ((jT (Zf ((zE ((zM (zr (zi rfl) zF)).trans (BS H h s A)) zN).trans rfl))).trans qx)).trans qx)
def lL {w:W}(h:Jm A w):ZU [w] A=.exc "NoTable" A:=by refine Z1 ?_;dsimp only[KG];exact wX (YV ((zM (zr (zi rfl) zF)).trans (Dl h)))
def lM (h:qi t)(e:KH [zp t] A=.ok (.tup ws) A):ZU [zp t] A=.exc "NotSteady" A:=by refine Z1 ?_;dsimp only[KG];exact(zA (kj ((zM (zr (zi rfl) zF)).trans (Ow h A)))).trans (wX ((yC (Zf ((zE ((zM (zr (zi rfl) zF)).trans e) zN).trans rfl))).trans (wX rfl)))
theorem Mq (v:Int):∀(r:bP)(n:Nat),Jh (.int v) (r.map W.int) n=n+r.count v
 |[],_=>rfl|x::r,n=>by
  show Jh (.int v) (r.map W.int) (if (x==v)=true then n+1 else n)=_;rw[Mq v r,List.count_cons]
  by_cases h:x=v
  ·subst h
   simp;lia
  ·simp[h]
noncomputable def yo (t:bN)(K:Nat):bP:=(List.range K).map λ(k:Nat)=>(((t.getD 0 []).count (k:Int):Nat):Int)
def AL (c:qi t)(H:qf t=(K:Int))(A:Hx):KL [zp t] A=.ok (.ref A.length) (A++[.lst ((yo t K).map W.int)]):=by
 have kb:=km c;have n:=c.n1;have d:=yS (m:=zO Yk (zj zI zw)) (ρ:=[some (zp t)]) (A:=[]) (A1:=[]) (k:=(K:Int)) ((zM (zr (zi rfl) zF)).trans ((JB c _).trans (by rw[H]))) (ZY (by lia))
 rw[aA]at d;have e:=gB (cap:=[0]) (me:=TU XN (zm zH zD qB) zI) (ρ:=[some (zp t)]) (A:=[]) (N:=K) (item:=λi=>.int (0+(i:Int))) (g:=λk=>.int (((t.getD 0 []).count (k:Int):Nat):Int)) d rfl (by unfold zX;lia) (λi h=>yh h) (yf (by lia)) (λi h=>by
  have E:zm zH zD qB (some (W.int (0+(i:Int)))::[0].map λi=>([some (zp t)][i]?).join) []=.ok (.tup ((t.getD 0 []).map W.int)) []:=(zE (zi (w:=zp t) rfl) zN).trans (JE (a:=0) n);unfold TU;rw[E,zJ];dsimp only;rw[show zI (some (W.int (0+(i:Int)))::[0].map λi=>([some (zp t)][i]?).join) []=.ok (.int (0+(i:Int))) [] from zi rfl,zJ,Int.zero_add]
  unfold XN;dsimp only;rw[ai,Mq,zero_add];show(true&&((t.getD 0 []).map W.int).all yx)=true;rw[Bool.true_and,aY];intro w f;obtain⟨v,_,rfl⟩:=cu.mp f
  rfl)
 have b:((List.range K).map λ(k:Nat)=>W.int (((t.getD 0 []).count (k:Int):Nat):Int))=(yo t K).map W.int:=by unfold yo;rw[aW];rfl
 rw[b]at e;exact TC (k:=0) (A1:=[.lst ((yo t K).map W.int)]) (ZN t) (qM (by dsimp only[Ui,mq];exact qh (qH (kf e)))) rfl (Q4 (λ_=>rfl) _)
end
def Nb {r:Nat}{l:bT}(h:A[r]? =some (.lst (iL l))):qC A 8 (.ref r)=some (.list (l.map λ(a:Nat)=>PyData.int a)):=by
 show(match zW (.ref r) A with|some b=>(yF (qC A 7) b).map PyData.list|none=>none)=_
 have:zW (.ref r) A=some (iL l):=by unfold zW;dsimp only;rw[h]
 rw[this];dsimp only;rw[G4 (h:=λ(a:Nat)=>PyData.int a) (λa=>rfl)]
 rfl
def ne_nil {r s:Nat}{l:bT}(h:A[r]? =some (.lst (iL l)))(H:A[s]? =some (.lst [])):ju (.ref r) (.ref s) A=.ok (.bl (decide (l≠[]))) A:=by
 show gi true _ _ A=_;unfold gi;rw[Nb h,Nb (l:=[]) H];dsimp only;rw[ai rfl]
 congr 2
 rw[PyData.eqv];cases l with|nil=>simp[PyData.eqvAll]|cons a l=>rw[map_nil,SeqAt.eqvAll_other_length (by simp)];simp
noncomputable def QJ (o:bT):W:=.tup (o.map λ(a:Nat)=>W.int a)
def Al (o:bT):(QJ o).nr=true:=by show qR (o.map λ(a:Nat)=>W.int a)=true;exact Q4 (λ_=>rfl) _
abbrev Ru:Ev:=zm ju (zU 2) (qO zw)
abbrev lN:Ex:=zG (wg (yu kg (zU 3) (yu Z8 (zU 2) (zO j4 (zj (zU 0) (zj (mQ qu (qa (zU 2))) zw)))))) zS
def BR {x:Option W}:∀(k f:Nat)(l fd:bT)(A:Hx),l.length=k->k<f->l.length<=100->fd.length+l.length<=100->qQ 0 A->A[1]? =some (.lst (iL l))->A[2]? =some (.lst (iL fd))->
  ∃A' d,QI Ru lN f [rO 0,x,rO 1,rO 2] A=.ok (.nx [rO 0,x,rO 1,rO 2]) A'/\qQ 0 A'/\A'[2]? =some (.lst (iL d))/\d.Perm (fd++l):=by
 intro k
 induction k with
 |zero=>
  intro f l fd A n hf _ _ v h1 h2;obtain⟨f,rfl⟩:∃J,f=J+1:=⟨f-1,by lia⟩
  have:l=[]:=List.length_eq_zero_iff.mp n
  subst this;refine⟨A++[.lst []],fd,?_,?_,jx h2,by simp⟩
  ·unfold QI
   have p:Ru [rO 0,x,rO 1,rO 2] A=.ok (.bl false) (A++[.lst []]):=(zE (zi (i:=2) rfl) (jB zF)).trans (ne_nil (l:=[]) (jx h1) qN);rw[p,zJ]
  ·obtain⟨c,b,e,r⟩:=v
   exact⟨c,b,jx e,r⟩
 |succ k Q=>
  intro f l fd A n hf K S v h1 h2;obtain⟨f,rfl⟩:∃J,f=J+1:=⟨f-1,by lia⟩
  have p:Ru [rO 0,x,rO 1,rO 2] A=.ok (.bl true) (A++[.lst []]):=by
   refine(zE (zi (i:=2) rfl) (jB zF)).trans ((ne_nil (jx h1) qN).trans ?_);have C:l≠[]:=λe=>by rw[e]at n;cases n
   rw[ay C]
  have H:qQ 0 (A++[.lst []]):=by obtain⟨c,b,e,r⟩:=v;exact⟨c,b,jx e,r⟩
  have g1:=jx (u:=.lst []) h1;have g2:=jx (u:=.lst []) h2;generalize A++[O.lst []]=B at p H g1 g2;obtain⟨r,o,T,N,rl,t⟩:=QA H (m:=(l.length:Int)) (by lia) (by lia)
  obtain⟨q,rfl⟩:=aS N;have y:q<l.length:=by lia
  have E:mQ qu (qa (zU 2)) [rO 0,x,rO 1,rO 2] B=.ok (.int l.length) B:=by
   rw[j0 (yL (w:=.ref 1) (A1:=B) (ws:=iL l) (zi rfl) (by unfold zW;dsimp only;rw[g1]))]
   unfold qu;rw[ag]
  have Y:zO j4 (zj (zU 0) (zj (mQ qu (qa (zU 2))) zw)) [rO 0,x,rO 1,rO 2] B=.ok (.int q) (B.set 0 o):=(zM (zr (zi (i:=0) rfl) (zr E zF))).trans T;have j:(B.set 0 o)[1]? =some (.lst (iL l)):=by rw[av (by lia)];exact g1
  have I:(B.set 0 o)[2]? =some (.lst (iL fd)):=by rw[av (by lia)];exact g2
  have hw:(iL l)[q]? =iV ((l[q]:Nat):Int):=by rw[ax,ae y];rfl
  have M:=(Jx (g:=Z8) (a:=zU 2) (zi rfl) g1 Y).trans (Ce j hw (by lia))
  have he:(iL l).eraseIdx q=iL (l.eraseIdx q):=by exact Ov _ _ _
  rw[he]at M;have h:((B.set 0 o).set 1 (.lst (iL (l.eraseIdx q))))[2]? =some (.lst (iL fd)):=by rw[av (by lia)];exact I
  have L:=(Jx (g:=kg) (a:=zU 3) (zi rfl) g2 M).trans (GK h (by rw[ag];lia))
  have D:iL fd++[.int ((l[q]:Nat):Int)]=iL (fd++[l[q]]):=by unfold iL;rw[aN];rfl
  rw[D]at L;have hlen:(l.eraseIdx q).length=k:=by rw[List.length_eraseIdx_of_lt y];lia
  obtain⟨A',d,X,s4,Z,P⟩:=Q f (l.eraseIdx q) (fd++[l[q]]) (((B.set 0 o).set 1 (.lst (iL (l.eraseIdx q)))).set 2 (.lst (iL (fd++[l[q]])))) hlen (by lia) (by lia) (by rw[aw,aX];lia)
   (by obtain⟨c,b,e,r⟩:=t;exact⟨c,b,by rw[av (by lia),av (by lia)];exact e,r⟩)
   (by rw[av (by lia),ar (jS j)]) (by rw[ar (jS h)])
  refine⟨A',d,?_,s4,Z,P.trans ?_⟩
  ·unfold QI
   rw[p,zJ];dsimp only;have U:=(zA (m2:=zS) (kj L)).trans qx;show R.bind (zG (wg (yu kg (zU 3) (yu Z8 (zU 2) (zO j4 (zj (zU 0) (zj (mQ qu (qa (zU 2))) zw)))))) zS [rO 0,x,rO 1,rO 2] B) _=_;rw[U,zJ];exact X
  ·rw[aP]
   exact List.Perm.append_left fd (Og (ae y)).symm
def NG {m:Nat}(h:qQ m A)(u:n<=8):∃p o,Yo [.ref m,.int n] A=.ok (QJ p) (A.set m o)/\qQ m (A.set m o)/\p.Perm (List.range n):=by
 obtain⟨c,b,d,g,j⟩:=h;have r:=jS d;obtain⟨q,l,e,⟨C,B,E,H,a⟩,t,f⟩:=BR (x:=iO n) n 1000 (List.range n) [] [.lst [.int c,.bl b],.lst (iL (List.range n)),.lst []] aI (by lia) (by rw[aI];lia) (by rw[aI];simp;lia) ⟨c,b,rfl,g,j⟩ rfl rfl
 refine⟨l,.lst [.int C,.bl B],?_,⟨C,B,ar r,H,a⟩,f⟩;unfold Yo;refine K3 (A1:=q) d rfl ?_ E (Al l);unfold PH;refine qM ?_;dsimp only[Ut,mq];refine(zA (ρ1:=[rO 0,iO n,rO 1,none]) (A1:=[.lst [.int c,.bl b],.lst (iL (List.range n))]) ((qj (DW (zi (i:=1) rfl) (by lia))).trans rfl)).trans ?_
 refine(zA (ρ1:=[rO 0,iO n,rO 1,rO 2]) (A1:=[.lst [.int c,.bl b],.lst (iL (List.range n)),.lst []]) ((qj (jB zF)).trans rfl)).trans ?_;refine(zA e).trans (qh (qH (Wh (yL (w:=.ref 2) (A1:=q) (ws:=iL l) (zi rfl) (by unfold zW;dsimp only;rw[t])))))
section
def Gx (h:qi t)(A:Hx):QV [zp t] A=.ok (.int (qf t)) A:=JB h A
def Vy (h:qi t){e d M:Ev}{a b:Nat}(f:M ρ A=.ok (zp t) A)(c:e ρ A=.ok (.int a) A)(H:d ρ A=.ok (.int b) A)(l:a<t.length)(L:b<t.length):zm zH (zm zH M e) d ρ A=.ok (.int (at2 t a b)) A:=
 (zE ((zE f c).trans (JE l)) H).trans (wj (by rw[h.sq _ (ki l)];exact L))
def Ah (h:qi t){p o:bT}(H:∀a∈o,a<t.length)(q:o.length<=8)(n:(p.length:Int)=qf t-1){r:Nat}(g:A[r]? =some (.lst ((jf p).map W.int))):Uu [zp t,QJ o,.ref r] A=.ok (zp (w9 t p o)) A:=by
 unfold Uu Pr;refine qM ?_;dsimp only[Us,mq];refine qh (qH ?_);have E:=G2 (cap:=[0,1,2]) (ρ:=[some (zp t),some (QJ o),rO r]) (A:=A) (m:=zU 1) (o:=o) (f:=λ(a:Nat)=>W.int a) (me:=mQ gT (qD 1 [0,1,3] (q9 (zU 2)) (zQ 0) (zT (.bl true)) (qw (zm zH (zU 3) (zm zH (zm zH (zU 2) (zU 1)) (zU 0))))))
  (G:=λa=>zo (o.map λb=>(jf p).getD (at2 t a b).toNat 0)) (zi rfl) (by unfold zX;lia) (λa e=>by
   have j:=G2 (cap:=[0,1,3]) (ρ:=[iO a,some (zp t),some (QJ o),rO r]) (A:=A) (m:=zU 2) (o:=o) (f:=λ(a:Nat)=>W.int a) (me:=zm zH (zU 3) (zm zH (zm zH (zU 2) (zU 1)) (zU 0)))
    (G:=λb=>.int ((jf p).getD (at2 t a b).toNat 0)) (zi rfl) (by unfold zX;lia) (λb d=>by
     have L:=H a e;have l:=H b d;have u:=(Y5 h L l).1;have B:=Wr h L l;have v:(at2 t a b).toNat<(jf p).length:=by unfold jf;rw[a6,ag];lia
     refine(zE (zi (i:=3) rfl) (Vy h (zi (i:=2) rfl) (zi (i:=1) rfl) (zi (i:=0) rfl) L l)).trans ?_;have c:at2 t a b=((at2 t a b).toNat:Int):=by lia
     rw[c];refine wH g ?_;rw[ax,ae v,aA,aa,ae v]
     rfl)
   refine(Wh j).trans ?_;unfold zo;rw[aW]
   rfl)
 refine(Wh E).trans ?_;unfold w9 zp;rw[aW]
 rfl
def BF (h:qi t){m:Nat}(Z:qQ m A):∃p o b,W9 [.ref m,zp t] A=.ok (zp (w9 t p o)) (A.set m b)/\qQ m (A.set m b)/\p.Perm (List.range (qf t-1).toNat)/\o.Perm (List.range t.length):=by
 obtain⟨c,b,Q,hc,hb⟩:=Z;have hm:=jS Q;have kb:=km h;have n8:=h.n8;generalize H:([.lst [.int c,.bl b],.lst [.int 0]]:Hx)=B;have sB:qQ 0 B:=by rw[<- H];exact⟨c,b,rfl,hc,hb⟩
 obtain⟨p,g,S,s1,j⟩:=NG sB (n:=(qf t-1).toNat) (by lia)
 have J:(B.set 0 g)[1]? =some (.lst [.int 0]):=by rw[<- H];rfl
 have I:(B.set 0 g).length=2:=by rw[<- H];rfl
 generalize B.set 0 g=d at*;have v:(((qf t-1).toNat:Nat):Int)=qf t-1:=by lia
 rw[v]at S;have ec:qD 1 [] (q9 (zO Yo (zj (zU 0) (zj (zm gX (zU 2) (zT (.int 1))) zw)))) (zQ 0) (zT (.bl true)) (qw (zm qJ (zT (.int 1)) (zU 0))) [rO 0,some (zp t),iV (qf t),none] B=.ok (p.map λ(k:Nat)=>W.int (1+(k:Int))) d:=by
  have em:zO Yo (zj (zU 0) (zj (zm gX (zU 2) (zT (.int 1))) zw)) [rO 0,some (zp t),iV (qf t),none] B=.ok (QJ p) d:=(zM (ws:=[.ref 0,.int (qf t-1)]) (A1:=B) (zr (zi (i:=0) rfl) (zr ((zE (zi (i:=2) rfl) (zN (w:=.int 1))).trans rfl) zF))).trans S;have L:=G2 (cap:=[]) (ρ:=[rO 0,some (zp t),iV (qf t),none]) (A:=d) (m:=zT (QJ p)) (o:=p) (f:=λ(a:Nat)=>W.int a) (me:=zm qJ (zT (.int 1)) (zU 0)) (G:=λ(k:Nat)=>W.int (1+(k:Int))) rfl (by have:=j.length_eq;rw[aI]at this;unfold zX;lia) (λa N=>(zE (zN (w:=.int 1)) (zi (i:=0) rfl)).trans rfl)
  unfold qD at L ⊢;rw[Q2 (m:=zT (QJ p)) (A1:=d) rfl,zJ]at L;rw[Q2 em,zJ];exact L
 have l:p.length=(qf t-1).toNat:=by rw[j.length_eq,aI]
 have K:zm qJ (qO (zj (zT (.int 0)) zw)) (jP (qD 1 [] (q9 (zO Yo (zj (zU 0) (zj (zm gX (zU 2) (zT (.int 1))) zw)))) (zQ 0) (zT (.bl true)) (qw (zm qJ (zT (.int 1)) (zU 0))))) [rO 0,some (zp t),iV (qf t),none] [.lst [.int c,.bl b]]=
   .ok (.ref (d++[O.lst (p.map λ(k:Nat)=>W.int (1+(k:Int)))]).length) (d++[O.lst (p.map λ(k:Nat)=>W.int (1+(k:Int)))]++[O.lst ([.int 0]++p.map λ(k:Nat)=>W.int (1+(k:Int)))]):=by
  refine(zE (x:=.ref 1) (A1:=B) ((jB (ws:=[.int 0]) (A1:=[.lst [.int c,.bl b]]) rfl).trans (by rw[<- H];rfl)) (kf ec)).trans ?_
  refine K1 (jx J) ?_ (by rw[ag,l];show 1+_<=zX;unfold zX;lia)
  rw[qN]
 have u:([.int 0]++p.map λ(k:Nat)=>W.int (1+(k:Int)))=(jf p).map W.int:=by unfold jf;rw[aR,aW];rfl
 rw[u]at K;have Y:qQ 0 (d++[O.lst (p.map λ(k:Nat)=>W.int (1+(k:Int)))]++[O.lst ((jf p).map W.int)]):=by obtain⟨c,b,e,r⟩:=s1;exact⟨c,b,jx (jx e),r⟩
 have P:(d++[O.lst (p.map λ(k:Nat)=>W.int (1+(k:Int)))]++[O.lst ((jf p).map W.int)])[(d++[O.lst (p.map λ(k:Nat)=>W.int (1+(k:Int)))]).length]? =some (.lst ((jf p).map W.int)):=qN;have hr:(d++[O.lst (p.map λ(k:Nat)=>W.int (1+(k:Int)))]).length=3:=by rw[aw,I];rfl
 rw[hr]at P K;generalize d++[O.lst (p.map λ(k:Nat)=>W.int (1+(k:Int)))]++[O.lst ((jf p).map W.int)]=C at*;obtain⟨o,M,e3,s2,q⟩:=NG Y (n:=t.length) n8;have hol:o.length=t.length:=by rw[q.length_eq,aI]
 have E:(C.set 0 M)[3]? =some (.lst ((jf p).map W.int)):=by rw[av (by lia)];exact P
 generalize C.set 0 M=X at*;have e4:=Ah h (p:=p) (o:=o) (λa N=>cj.mp (q.mem_iff.mp N)) (by lia) (by lia) E
 obtain⟨T,U,e',y,D⟩:=s2;refine⟨p,o,.lst [.int T,.bl U],?_,⟨T,U,ar hm,y,D⟩,j,q⟩;unfold W9;refine K3 (A1:=X) Q (by show((zp t).nr&&true)=true;rw[Ze];rfl) ?_ e' (Ze _)
 unfold RU;refine qM ?_;dsimp only[VU,mq];refine(zA (ρ1:=[rO 0,some (zp t),iV (qf t),none]) (A1:=[.lst [.int c,.bl b]]) ((qj ((zM (ws:=[zp t]) (A1:=[.lst [.int c,.bl b]]) rfl).trans (Gx h _))).trans rfl)).trans ?_;refine(zA (ρ1:=[rO 0,some (zp t),iV (qf t),rO 3]) (A1:=C) ((qj K).trans rfl)).trans (qh (qH ?_));refine(zM (ws:=[zp t,QJ o,.ref 3]) (A1:=X) (zr (zi (i:=1) rfl) (zr ((zM (ws:=[.ref 0,.int t.length]) (A1:=C) (zr (zi (i:=0) rfl) (zr (k6 rfl) zF))).trans e3) (zr (zi (i:=3) rfl) zF)))).trans e4
end
theorem Of:∀l:bP,gH (l.map W.int)=some (l.map λi=>i != 0)
 |[]=>rfl|x::l=>by
  show(match Kk (.int x),gH (l.map W.int) with|some k,some K=>some (k::K)|_,_=>none)=_
  rw[Of l]
  rfl
def Xc (l:bP):gU (l.map W.int) A=.ok (.int l.sum) A:=by
 unfold gU;rw[KP]
 have:∀(l:bP)(k:Int),kQ l k=k+l.sum:=λl=>by
  induction l with|nil=>intro k;show k=k+0;lia|cons x l i=>intro k;show kQ l (k+x)=_;rw[i,sum_cons];lia
 dsimp only;rw[this,Int.zero_add]
section
variable {K m j:Nat}{w:bP}{S:List (bN)}
structure Wf (K:Nat)(S:List (bN)):Prop where
 l:S.length=K
 r:∀t∈S,t.length=K
 c:∀t∈S,∀q∈t,q.length=K
 b:∀t∈S,∀i j,0<=at2 t i j/\at2 t i j<100
def Bg (w:bP):Prop:=∀v∈w,v.natAbs<2 ^ 256
def X6 (h:Bg w)(i:Nat):(w.getD i 0).natAbs<2 ^ 256:=by
 by_cases H:i<w.length
 ·rw[aa,ae H]
  exact h _ (aJ _)
 ·rw[aa,aD (by lia)]
  decide
def Mx {i j:Int}(h:i.natAbs<2 ^ 256)(H:j.natAbs<2 ^ 256):qE (.int i) (.int j) A=.ok (.int (i * j)) A:=by
 unfold qE;dsimp only;rw[ai];unfold Kl;rw[a3,a3]
 right
 right
 rw[ak];exact⟨ay h,ay H⟩
def Nd (h:∀v∈w,-100<v/\v<100):Bg w:=λv H=>by have:=h v H;lia
abbrev pS (S:List (bN))(k i j:Nat):Int:=at2 (S.getD k []) i j
def yz (S:List (bN))(w:bP)(i j:Nat):Bool:=((S.drop w.length).any λt=>at2 t i j != 0) || decide (w.getD i 0 * w.getD j 0=((List.range w.length).map λk=>pS S k i j * w.getD k 0).sum)
def yD (S:List (bN))(w:bP):Bool:=(List.range w.length).all λi=>(List.range w.length).all λj=>yz S w i j
def EA {c:En}{j:jt}{N d:Nat}{u v g:Nat->W}(t:∀i,i<N->j.at_ A i=some (some (.tup [u i,v i])))(H:j.at_ A N=some none)(b:∀i,i<N->me (some (u i)::some (v i)::c) A=.ok (g i) A):
  ∀(f i:Nat)(x y:Option W)(a:List W),i+f=N->a.length+f<=zX->∃ρ,qZ j (jZ 0 1) (zT (.bl true)) (qw me) (f+d) i (x::y::c) a A=.ok (ρ,a++(List.range' i f).map g) A:=by
 intro f
 induction f with
 |zero=>
  intro i x y a h l
  have:i=N:=by lia
  subst this;refine⟨x::y::c,?_⟩;rw[zero_add];cases d<;>(unfold qZ;rw[H];simp)
 |succ f I=>
  intro i x y a h l;obtain⟨ρ,e⟩:=I (i+1) (some (u i)) (some (v i)) (a++[g i]) (by lia) (by rw[aw,aX];lia)
  refine⟨ρ,?_⟩;rw[show f+1+d=(f+d)+1 by lia,qZ,t i (by lia)]
  dsimp only;rw[show jZ 0 1 (.tup [u i,v i]) (x::y::c)=some (some (u i)::some (v i)::c) from rfl]
  dsimp only[zT];rw[zJ];dsimp only;have E:qw me (some (u i)::some (v i)::c) a A=.ok (some (u i)::some (v i)::c,a++[g i]) A:=by unfold qw;rw[b i (by lia),zJ,ai (by lia)]
  rw[E,zJ];rw[e,aP,range'_succ,aR]
  rfl
def FR {j:jt}{N:Nat}{u v g:Nat->W}(l:mi ρ A=.ok j A)(b:N<=j.len)(f:N<=1000)(H:∀i,i<N->j.at_ A i=some (some (.tup [u i,v i])))(h:j.at_ A N=some none)
  (n:∀i,i<N->me (some (u i)::some (v i)::cap.map λi=>(ρ[i]?).join) A=.ok (g i) A):qD 2 cap mi (jZ 0 1) jl (qw me) ρ A=.ok ((List.range N).map g) A:=by
 obtain⟨a,e⟩:=EA (A:=A) (c:=cap.map λi=>(ρ[i]?).join) (d:=j.len-N) H h n N 0 none none [] (by lia) (by unfold zX;simp;lia)
 unfold qD;rw[l,zJ,show j.len=N+(j.len-N) by lia]
 show R.bind (R.nox (qZ j _ _ _ (N+(j.len-N)) 0 (none::none::cap.map λi=>(ρ[i]?).join) [] A)) _=_;rw[e,<- range_eq_range',bK]
 rfl
def lO {n:Nat}{m:Ev}{i:Ev}{w:W}(h:m ρ A=.ok w A1):qD n cap (q9 m) tw i em ρ A=qD n cap (q9 (zT w)) tw i em ρ A1:=by
 unfold qD q9;rw[h]
 rfl
def DU {m:Ev}{o:List α}{f:α->W}{G:α->W}(h:m ρ A=.ok (.ref n) A)(b:A[n]? =some (.lst (o.map f)))(l:o.length<=zX)(c:∀a∈o,me (some (f a)::cap.map λi=>(ρ[i]?).join) A=.ok (G a) A):
  qD 1 cap (q9 m) (zQ 0) jl (qw me) ρ A=.ok (o.map G) A:=by
 have e:=gB (cap:=cap) (me:=me) (ρ:=ρ) (A:=A) (N:=o.length) (item:=λi=>((o.map f)[i]?).getD .non) (g:=λi=>((o.map G)[i]?).getD .non) (Jz h b) (by rw[ag]) l
  (λi H=>(wZ b).trans (by rw[ax,ae H];rfl))
  ((wZ b).trans (by rw[aD (by rw[ag];exact aq _)]))
  (λi H=>by rw[ax,ax,ae H];exact c _ (aJ H))
 rw[e]
 congr 1
 apply a8
 ·simp
 ·intro i j d
  have H:i<o.length:=by simpa using d
  simp[ae H]
def lP {m p:Ev}{a:Hx}{k:Nat}(h:m ρ a=.ok (.ref n) A)(d:A[n]? =some (.lst ws))(b:p ρ A=.ok (.int k) A)(c:k<=ws.length):Zh m (ku p) Qh ρ a=.ok (.ref A.length) (A++[.lst (ws.drop k)]):=by
 have H:ku p ρ A=.ok (some (k:Int)) A:=by unfold ku;rw[b,zJ]
 unfold Zh;rw[h,zJ,H,zJ];show(match A[n]? with|some (O.lst ws)=>R.ok (W.ref A.length) (A++[O.lst (yG ws (some (k:Int)) none)])|_=>.bad)=_
 rw[d];dsimp only;unfold yG;rw[HT.za1,HT.CQ,Nat.min_eq_left c,bz (by rw[bE];exact aq _)]
def XF {us v:List W}(h:A[n]? =some (.lst us))(i:Nat)(N:Nat):(wN (.ref n) (.tup v) N).at_ A i=some (zip2 us[i]? v[i]?):=by
 show(match zW (.ref n) A,zW (.tup v) A with|some us,some v=>some (zip2 us[i]? v[i]?)|_,_=>none)=_
 have:zW (.ref n) A=some us:=by unfold zW;dsimp only;rw[h]
 rw[this]
 rfl
def lQ {m M:Ev}{u v:List W}(h:m ρ A=.ok (.ref n) A)(H:A[n]? =some (.lst u))(a:M ρ A=.ok (.tup v) A):Zj m M ρ A=.ok (wN (.ref n) (.tup v) u.length) A:=by
 unfold Zj;rw[h,zJ,a,zJ]
 have:zW (.ref n) A=some u:=by unfold zW;dsimp only;rw[H]
 rw[this]
 rfl
abbrev fB:Ex:=zG (qA 5 (jP (qD 1 [3,4] (q9 (Zh zI (ku qg) Qh)) (zQ 0) jl (qw (zm zH (zm zH zI zD) qg))))) (zG (qA 6 (jP (qD 2 [3,4] (Zj zI zD) (jZ 0 1) jl (qw (zm qE (zm zH (zm zH zI qg) qb) zD))))) (zG (jk (kP (ym (mQ WU (qa jX))) (zm ju (zm qE (zm zH zD qb) (zm zH zD ql)) (mQ gU (qa kU)))) kF zS) zS))
def lR {x5 x6:Option W}(H:Wf K S)(h:A[0]? =some (.lst (S.map zp)))(hm:w.length<=K)(hK:K<=8)(hw:Bg w)(Y:i<w.length)(X:j<w.length):
  ∃y5 y6 B,B[0]? =some (.lst (S.map zp))/\fB [rO 0,some (zo w),iV w.length,iO i,iO j,x5,x6] A=.ok (if yz S w i j then .nx [rO 0,some (zo w),iV w.length,iO i,iO j,y5,y6] else .rt (.bl false)) B:=by
 have p:(S.map zp).length=K:=by rw[ag,H.l]
 have e8:w.length<=8:=by lia
 generalize n:([rO 0,some (zo w),iV w.length,iO i,iO j,x5,x6]:En)=ρ;have Q:Zh zI (ku qg) Qh ρ A=.ok (.ref A.length) (A++[.lst ((S.map zp).drop w.length)]):=by subst n;exact lP (zi rfl) h (zi rfl) (by rw[p];exact hm)
 rw[<- List.map_drop]at Q;have e5:qD 1 [3,4] (q9 (Zh zI (ku qg) Qh)) (zQ 0) jl (qw (zm zH (zm zH zI zD) qg)) ρ A=.ok ((S.drop w.length).map λt=>W.int (at2 t i j)) (A++[.lst ((S.drop w.length).map zp)]):=by
  rw[lO Q];refine DU (f:=zp) zN qN (by have:=H.l;rw[bE];unfold zX;lia) (λt ht=>?_)
  have o:=br ht;have U:=H.r t o;subst n;exact(zE ((zE (zi rfl) (zi rfl)).trans (JE (a:=i) (by lia))) (zi rfl)).trans (wj (b:=j) (by rw[H.c t o _ (ki (by lia))];lia))
 have J:=kf e5;have x:(A++[O.lst ((S.drop w.length).map zp)]++[O.lst ((S.drop w.length).map λt=>W.int (at2 t i j))])[0]? =some (.lst (S.map zp)):=jx (jx h);have E:(A++[O.lst ((S.drop w.length).map zp)]++[O.lst ((S.drop w.length).map λt=>W.int (at2 t i j))])[(A++[O.lst ((S.drop w.length).map zp)]).length]? =some (.lst ((S.drop w.length).map λt=>W.int (at2 t i j))):=qN;generalize A++[O.lst ((S.drop w.length).map zp)]++[O.lst ((S.drop w.length).map λt=>W.int (at2 t i j))]=B at*;generalize (A++[O.lst ((S.drop w.length).map zp)]).length=q at*;generalize e:([rO 0,some (zo w),iV w.length,iO i,iO j,rO q,x6]:En)=σ;have ez:Zj zI zD σ B=.ok (wN (.ref 0) (zo w) (S.map zp).length) B:=by subst e;exact lQ (zi rfl) x (zi rfl)
 have e6:=FR (cap:=[3,4]) (me:=zm qE (zm zH (zm zH zI qg) qb) zD) (N:=w.length) (u:=λk=>zp (S.getD k [])) (v:=λk=>.int (w.getD k 0)) (g:=λk=>.int (pS S k i j * w.getD k 0)) ez (by show w.length<=(S.map zp).length;rw[p];exact hm) (by lia)
  (λk L=>(XF x k _).trans (by
   rw[ax,ae (show k<S.length by rw[H.l];lia),int_at L,aa (l:=S),ae (show k<S.length by rw[H.l];lia)]
   rfl))
  ((
   XF x _ _).trans (by
   rw[aD (l:=w.map W.int) (by rw[ag];exact aq _)]
   cases (S.map zp)[w.length]?<;>rfl))
  (λk L=>by
   have ht:S.getD k []∈S:=by
    rw[aa,ae (show k<S.length by rw[H.l];lia)]
    exact aJ _
   have U:=H.r _ ht;have hb:=H.b _ ht i j;subst e;exact(zE ((zE ((zE (zi rfl) (zi rfl)).trans (JE (a:=i) (by lia))) (zi rfl)).trans (wj (b:=j) (by rw[H.c _ ht _ (ki (by lia))];lia))) (zi rfl)).trans (yN (by show -(2 ^ 64)<at2 _ i j;lia) (by show at2 _ i j<2 ^ 64;lia)))
 have I:=kf e6;have Z:(B++[O.lst ((List.range w.length).map λk=>W.int (pS S k i j * w.getD k 0))])[0]? =some (.lst (S.map zp)):=jx x;have D:(B++[O.lst ((List.range w.length).map λk=>W.int (pS S k i j * w.getD k 0))])[q]? =some (.lst ((S.drop w.length).map λt=>W.int (at2 t i j))):=jx E;have y:(B++[O.lst ((List.range w.length).map λk=>W.int (pS S k i j * w.getD k 0))])[B.length]? =some (.lst ((List.range w.length).map λk=>W.int (pS S k i j * w.getD k 0))):=qN;generalize B++[O.lst ((List.range w.length).map λk=>W.int (pS S k i j * w.getD k 0))]=C at*;refine⟨rO q,rO B.length,C,Z,?_⟩;generalize d:([rO 0,some (zo w),iV w.length,iO i,iO j,rO q,rO B.length]:En)=τ;have f1:ym (mQ WU (qa jX)) τ C=.ok (.bl (!((S.drop w.length).any λt=>at2 t i j != 0))) C:=by
  subst d;refine yM ((j0 (yL (w:=.ref q) (ws:=((S.drop w.length).map λt=>at2 t i j).map W.int) (A1:=C) (zi rfl) (by unfold zW;dsimp only;rw[D,aW];rfl))).trans ?_)
  show Zk (λks=>ks.any id) _ C=_;unfold Zk;rw[Of,aW];dsimp only;rw[List.any_map]
  rfl
 have f2:zm ju (zm qE (zm zH zD qb) (zm zH zD ql)) (mQ gU (qa kU)) τ C=.ok (.bl (!decide (w.getD i 0 * w.getD j 0=((List.range w.length).map λk=>pS S k i j * w.getD k 0).sum))) C:=by subst d;refine(zE ((zE ((zE (zi rfl) (zi rfl)).trans (wj Y)) ((zE (zi rfl) (zi rfl)).trans (wj X))).trans (Mx (X6 hw i) (X6 hw j))) ((j0 (yL (w:=.ref B.length) (ws:=((List.range w.length).map λk=>pS S k i j * w.getD k 0).map W.int) (A1:=C) (zi rfl) (by unfold zW;dsimp only;rw[y,aW];rfl))).trans (Xc _))).trans (WZ _ _ _)
 have hf:kP (ym (mQ WU (qa jX))) (zm ju (zm qE (zm zH zD qb) (zm zH zD ql)) (mQ gU (qa kU))) τ C=.ok (.bl (!yz S w i j)) C:=by
  unfold yz;cases M:(S.drop w.length).any λt=>at2 t i j != 0 with|true=>rw[M]at f1;exact Qv f1|false=>rw[M]at f1;rw[Bool.false_or];exact(Z7 f1).trans f2
 have head:∀{z},zG (jk (kP (ym (mQ WU (qa jX))) (zm ju (zm qE (zm zH zD qb) (zm zH zD ql)) (mQ gU (qa kU)))) kF zS) zS τ C=z->fB ρ A=z:=λT=>by subst n;subst e;subst d;exact(zA (qj J)).trans ((zA (qj I)).trans T)
 refine head ?_;cases P:yz S w i j with|true=>rw[P]at hf;exact(zA ((jT hf).trans qx)).trans qx|false=>rw[P]at hf;exact qh ((yC hf).trans (qh (qH zN)))
def all_succ {p:Nat->Bool}{k:Nat}:(List.range (k+1)).all p=((List.range k).all p&&p k):=by rw[bf,all_append];simp
def all_false {p:Nat->Bool}{k N:Nat}(H:k<N)(h:p k=false):(List.range N).all p=false:=by
 cases e:(List.range N).all p with|false=>rfl|true=>exact absurd (cw.mp e k (cj.mpr H)) (by rw[h];decide)
abbrev fI:Ex:=zG (jM (jU qg) (zQ 4) fB) zS
def lS {x4 x5 x6:Option W}(l:Wf K S)(h:A[0]? =some (.lst (S.map zp)))(u:w.length<=K)(n:K<=8)(t:Bg w)(g:i<w.length):
  (∃y4 y5 y6 B,B[0]? =some (.lst (S.map zp))/\(List.range w.length).all (yz S w i)=true/\fI [rO 0,some (zo w),iV w.length,iO i,x4,x5,x6] A=.ok (.nx [rO 0,some (zo w),iV w.length,iO i,y4,y5,y6]) B)∨
  ∃B,B[0]? =some (.lst (S.map zp))/\(List.range w.length).all (yz S w i)=false/\fI [rO 0,some (zo w),iV w.length,iO i,x4,x5,x6] A=.ok (.rt (.bl false)) B:=by
 have c:=yS (m:=qg) (ρ:=[rO 0,some (zo w),iV w.length,iO i,x4,x5,x6]) (A:=A) (A1:=A) (k:=(w.length:Int)) (zi rfl) (ZY (by lia))
 rw[aA]at c;rcases GF (j:=jE 0 w.length) (st:=turn (zQ 4) fB) (N:=w.length) (I:=λk q B=>B[0]? =some (.lst (S.map zp))/\(List.range k).all (yz S w i)=true/\∃y4 y5 y6,q=[rO 0,some (zo w),iV w.length,iO i,y4,y5,y6]) (Q:=λr B=>r=.bl false/\B[0]? =some (.lst (S.map zp))/\(List.range w.length).all (yz S w i)=false)
  (λk q B a ⟨v,H,y4,y5,y6,e⟩=>by
   subst e;refine⟨_,yh a,?_⟩;obtain⟨p,Z,C,d,o⟩:=lR (x5:=y5) (x6:=y6) (j:=k) l v u n t g a;have E:=(jY (tw:=zQ 4) (w:=.int (0+(k:Int))) (ρ:=[rO 0,some (zo w),iV w.length,iO i,y4,y5,y6]) (ρ1:=[rO 0,some (zo w),iV w.length,iO i,iO k,y5,y6]) (A:=B) (m1:=fB) (by rw[Int.zero_add];rfl)).trans o
   cases hf:yz S w i k with
   |true=>
    rw[hf]at E;exact .inl ⟨_,C,E,d,by rw[all_succ,H,hf];rfl,_,_,_,rfl⟩
   |false=>
    rw[hf]at E;exact .inr ⟨_,C,E,rfl,d,all_false a hf⟩)
  (λq B _=>yf (by lia)) w.length 0 [rO 0,some (zo w),iV w.length,iO i,x4,x5,x6] A (by lia) ⟨h,rfl,_,_,_,rfl⟩ with ⟨f,B,e,b,H,y4,y5,y6,rfl⟩|⟨r,B,e,rfl,b,H⟩
 ·exact .inl ⟨y4,y5,y6,B,b,H,(zA ((jC c).trans e)).trans qx⟩
 ·exact .inr ⟨B,b,H,qh ((jC c).trans e)⟩
def lT (g:Wf K S)(D:w.length<=K)(n:K<=8)(x:Bg w):∃B,T8 [.ref 0,zo w] [.lst (S.map zp)]=.ok (.bl (yD S w)) B/\B[0]? =some (.lst (S.map zp)):=by
 have l:mQ qu (qa zD) [rO 0,some (zo w),none,none,none,none,none] [.lst (S.map zp)]=.ok (.int w.length) [.lst (S.map zp)]:=by rw[j0 (yL (w:=zo w) (ws:=w.map W.int) (A1:=[.lst (S.map zp)]) (zi rfl) rfl)];unfold qu;rw[ag]
 have E:=yS (m:=qg) (ρ:=[rO 0,some (zo w),iV w.length,none,none,none,none]) (A:=[.lst (S.map zp)]) (A1:=[.lst (S.map zp)]) (k:=(w.length:Int)) (zi rfl) (ZY (by lia))
 rw[aA]at E;unfold T8;rcases GF (j:=jE 0 w.length) (st:=turn (zQ 3) fI) (N:=w.length) (I:=λk v B=>B[0]? =some (.lst (S.map zp))/\(List.range k).all (λi=>(List.range w.length).all λj=>yz S w i j)=true/\∃y u q Y,v=[rO 0,some (zo w),iV w.length,y,u,q,Y]) (Q:=λr B=>r=.bl false/\B[0]? =some (.lst (S.map zp))/\yD S w=false)
  (λk v B a ⟨J,H,y,u,q,Y,e⟩=>by
   subst e;refine⟨_,yh a,?_⟩;have t:=jY (tw:=zQ 3) (w:=.int (0+(k:Int))) (ρ:=[rO 0,some (zo w),iV w.length,y,u,q,Y]) (ρ1:=[rO 0,some (zo w),iV w.length,iO k,u,q,Y]) (A:=B) (m1:=fI) (by rw[Int.zero_add];rfl)
   rcases lS (x4:=u) (x5:=q) (x6:=Y) (i:=k) g J D n x a with ⟨p,o,Z,C,b,h,d⟩|⟨C,b,h,d⟩
   ·exact .inl ⟨_,C,t.trans d,b,by rw[all_succ,H];exact h,_,_,_,_,rfl⟩
   ·exact .inr ⟨_,C,t.trans d,rfl,b,all_false a h⟩)
  (λv B _=>yf (by lia)) w.length 0 [rO 0,some (zo w),iV w.length,none,none,none,none] [.lst (S.map zp)] (by lia) ⟨rfl,rfl,_,_,_,_,rfl⟩ with ⟨f,B,e,c,H,y,u,q,Y,rfl⟩|⟨r,B,e,rfl,c,H⟩
 ·refine⟨B,qM ?_,c⟩
  rw[show yD S w=true from H]
  dsimp only[XG,mq];exact(zA (qj l)).trans ((zA ((jC E).trans e)).trans (qh (qH zN)))
 ·refine⟨B,qM ?_,c⟩
  rw[H];dsimp only[XG,mq];exact(zA (qj l)).trans (qh ((jC E).trans e))
def DH {f:Fn}{U:List W}{v:W}(H:A[n]? =some (.lst ws))(b:qR ws=true)(u:qR U=true)(h:f (.ref 0::U) [.lst ws]=.ok v A1)(c:A1[0]? =some (.lst ws))(a:v.nr=true):kx f (.ref n::U) A=.ok v A:=by
 unfold kx;dsimp only;rw[H];dsimp only;rw[b,u,h];dsimp only[Bool.and_true,if_true];rw[List.head?_eq_getElem?,c];dsimp only;rw[b,a]
 have:A.set n (.lst ws)=A:=by
  apply ext_getElem?
  intro i
  by_cases h:n=i
  ·subst h
   rw[ar (jS H),H]
  ·rw[av h]
 rw[this]
 rfl
def lU (H:Wf K S)(d:w.length<=K)(a:K<=8)(c:Bg w)(h:A[n]? =some (.lst (S.map zp))):TV [.ref n,zo w] A=.ok (.bl (yD S w)) A:=by obtain⟨B,e,b⟩:=lT H d a c;exact DH h (Q4 (λ_=>Ze _) _) (by show((zo w).nr&&true)=true;rw[Z4];rfl) e b rfl
end
noncomputable def dn (s:Int):bP:=(List.range (2 * s.toNat+1)).map λ(i:Nat)=>s-(i:Int)
def ext (s:Int)(w:bP):bN:=(dn s).map λv=>w++[v]
def step (q:List Int->Bool)(L:bN)(s:Int):bN:=(L.flatMap (ext s)).filter q
noncomputable def ZS (p:Nat->List Int->Bool)(z:bP):Nat->List (bP)
 |0=>[[1]]|k+1=>step (p (k+1)) (ZS p z k) (z.getD (k+1) 0)
abbrev Ql (S:List (bN))(z:bP):Nat->List (bP):=ZS (λ_=>yD S) z
def Mg (s:Int):(dn s).length=2 * s.toNat+1:=by unfold dn;rw[ag,aI]
def TQ {s v:Int}(a:0<=s):v∈dn s↔-s<=v/\v<=s:=by
 unfold dn;rw[mem_map]
 constructor
 ·rintro⟨i,H,rfl⟩
  have:=cj.mp H
  lia
 ·intro h
  exact⟨(s-v).toNat,cj.mpr (by lia),by lia⟩
def three {s:Nat}:2 * s+1<=3 ^ s:=by
 induction s with|zero=>decide|succ s i=>rw[Nat.pow_succ];lia
section
variable {K k:Nat}{w z:bP}{L:bN}{s:Int}
def K7 {x:bP}:x∈ext s w↔∃v∈dn s,x=w++[v]:=by unfold ext;rw[mem_map];exact⟨λ⟨v,h,e⟩=>⟨v,h,e.symm⟩,λ⟨v,h,e⟩=>⟨v,h,e.symm⟩⟩
def CH {q:List Int->Bool}:(step q L s).length<=L.length * 3 ^ s.toNat:=by
 unfold step;refine aZ (List.length_filter_le _ _) ?_
 induction L with
 |nil=>rw[flatMap_nil];exact zero_le _|cons w L i=>
  rw[flatMap_cons,aw,a6,succ_mul]
  have:(ext s w).length<=3 ^ s.toNat:=by unfold ext;rw[ag,Mg];exact three
  lia
def lV (M:bN):(M.flatMap (ext s)).length=M.length * (2 * s.toNat+1):=by
 induction M with
 |nil=>rw[flatMap_nil];show 0=0 * _;rw[Nat.zero_mul]|cons w M i=>
  rw[flatMap_cons,aw,i,a6,Nat.add_mul M.length 1,Nat.one_mul,add_comm];unfold ext;rw[ag,Mg]
structure Zs (K:Nat)(z:bP):Prop where
 l:z.length=K
 p:∀v∈z,1<=v
 s:z.sum<=8
 h:z.getD 0 0=1
theorem Wm:∀(z:bP),(∀v∈z,1<=v)->∀v∈z,0<=z.sum/\v<=z.sum
 |[],_,v,h=>by cases h|x::z,p,v,H=>by
  have c:=p x (aF ..);have b:0<=z.sum:=by
   cases z with|nil=>exact Int.le_refl _|cons y Z=>exact(Wm (y::Z) (λu a=>p u (az _ a)) y (aF ..)).1
  rw[sum_cons];rcases cn.mp H with rfl|H
  ·lia
  ·have:=(Wm z (λu a=>p u (az _ a)) v H).2
   lia
def Zs.le (h:Zs K z)(H:k<K):1<=z.getD k 0/\z.getD k 0<=8:=by
 have a:z.getD k 0∈z:=by
  rw[aa,ae (by rw[h.l];exact H)]
  exact aJ _
 have:=Wm z h.p _ a
 have:=h.p _ a
 have:=h.s
 lia
theorem Yz {p:Nat->List Int->Bool}(a:Zs K z):∀k,k<K->∀w∈ZS p z k,w.length=k+1/\(∀v∈w,-9<v/\v<9)/\w.getD 0 0=1/\∀i,i<=k->-(z.getD i 0)<=w.getD i 0/\w.getD i 0<=z.getD i 0
 |0,c,w,h=>by
  have:w=[1]:=cx.mp h
  subst this;refine⟨rfl,λv b=>by rw[cx.mp b];lia,rfl,λi f=>?_⟩
  have:i=0:=by lia
  subst this;rw[a.h];show -1<=(1:Int)/\(1:Int)<=1;lia
 |k+1,c,w,h=>by
  obtain⟨x,d,n⟩:=List.mem_flatMap.mp (List.mem_filter.mp h).1;obtain⟨v,b,rfl⟩:=K7.mp n;obtain⟨q,o,j,g⟩:=Yz (p:=p) a k (by lia) x d
  have Z:=a.le c;have D:=(TQ (by lia)).mp b
  refine⟨by rw[aw,q];rfl,λu H=>?_,?_,λi f=>?_⟩
  ·rcases cy.mp H with H|H
   ·exact o u H
   ·rw[cx.mp H];lia
  ·rw[aa,ah (by lia),<- aa]
   exact j
  ·by_cases e:i=k+1
   ·subst e
    rw[aa (l:=x++[v]),au (by lia),show k+1-x.length=0 by lia]
    exact D
   ·rw[aa (l:=x++[v]),ah (by lia),<- aa]
    exact g i (by lia)
theorem N4 {p:Nat->List Int->Bool}(h:Zs K z):∀k,k<K->(ZS p z k).length<=3 ^ (((z.drop 1).take k).sum).toNat
 |0,_=>by show 1<=3 ^ 0;decide|k+1,H=>by
  have i:=N4 (p:=p) h k (by lia)
  have Z:=h.le H;have e:(z.drop 1).take (k+1)=(z.drop 1).take k++[z.getD (k+1) 0]:=by
   rw[List.take_succ,List.getElem?_drop,add_comm 1 k,ae (by rw[h.l];exact H),aa,ae (by rw[h.l];exact H)]
   rfl
  have n:0<=((z.drop 1).take k).sum:=by
   cases q:(z.drop 1).take k with
   |nil=>exact Int.le_refl _|cons y l=>
    refine(Wm (y::l) (λu a=>h.p u ?_) y (aF ..)).1;rw[<- q]at a;exact br (List.mem_of_mem_take a)
  have S:=CH (q:=p (k+1)) (L:=ZS p z k) (s:=z.getD (k+1) 0);rw[e,sum_append,List.sum_singleton,Int.toNat_add n (by lia),Nat.pow_add]
  exact aZ S (Nat.mul_le_mul_right _ i)
def NH {p:Nat->List Int->Bool}(h:Zs K z)(c:k<K):(ZS p z k).length<=2187:=by
 refine aZ (N4 h k c) ?_
 have:(((z.drop 1).take k).sum).toNat<=7:=by
  have a:∀l:bP,(∀v∈l,1<=v)->0<=l.sum:=λl b=>by
   cases l with|nil=>exact Int.le_refl _|cons y l=>exact(Wm (y::l) b y (aF ..)).1
  have e:z.sum=(z.take 1).sum+((z.drop 1).take k).sum+((z.drop 1).drop k).sum:=by rw[<- sum_append,<- sum_append,aP,take_append_drop,take_append_drop]
  have A:1<=(z.take 1).sum:=by
   cases z with
   |nil=>have:=h.l;simp at this;lia|cons x z=>
    have:=h.p x (aF ..)
    simp;lia
  have a2:=a ((z.drop 1).drop k) λv H=>h.p v (br (br H))
  have:=h.s
  lia
 exact Nat.pow_le_pow_right (by decide) this
variable {S:List (bN)}
def UY {u v:List W}(h:u.length+v.length<=1000):qJ (.tup u) (.tup v) A=.ok (.tup (u++v)) A:=by unfold qJ;dsimp only;rw[ai (by unfold zX;lia)]
structure Dt (t:bN)(K:Nat)(S:List (bN))(z:bP):Prop where
 tab:qi t
 kd:qf t=(K:Int)
 sd:jI t
 ks:∀A,Gs [zp t] A=.ok (.ref A.length) (A++[.lst (S.map zp)])
 zf:∀A,KL [zp t] A=.ok (.ref A.length) (A++[.lst (z.map W.int)])
 wf:Wf K S
 zs:Zs K z
 k1:1<=K
 k8:K<=8
end
noncomputable def sm (n:Nat)(f:Nat->Int):Int:=((List.range n).map f).sum
def wI (n:Nat)(f:Nat->Int):sm (n+1) f=sm n f+f n:=by unfold sm;rw[bf,aN,sum_append];simp
def yr {f g:Nat->Int}(h:∀i,i<n->f i=g i):sm n f=sm n g:=by
 unfold sm
 congr 1
 exact bh λi H=>h i (cj.mp H)
def Tw (n:Nat):sm n (λ_=>0)=0:=by
 induction n with|zero=>rfl|succ n i=>rw[wI,i];rfl
def lW (n:Nat)(f g:Nat->Int):sm n (λi=>f i+g i)=sm n f+sm n g:=by
 induction n with|zero=>rfl|succ n I=>rw[wI,wI,wI,I];lia
def MK {a:Nat}(b:a<n)(v:Int):sm n (λi=>if i=a then v else 0)=v:=by
 induction n with
 |zero=>lia|succ n I=>
  rw[wI]
  by_cases h:a=n
  ·subst h
   have:sm a (λi=>if i=a then v else 0)=sm a λ_=>0:=yr λi H=>aj (by lia)
   rw[this,Tw,ai rfl];lia
  ·rw[I (by lia),aj (by lia)]
   lia
section
variable {K:Nat}{w x:W}{r:bP}
def OU (l:ws.length<=100)(a:∀x∈ws,∃ty,jq x A=some ty):gz [.tup ws,.int K] A=.ok (.bl (decide (ws.length=K)&&ws.all yH)) A:=by
 unfold gz Yr;refine qM ?_;dsimp only[Js,mq];refine qh (qH ?_);refine(Z7 (A1:=A) rfl).trans ?_;have e:=Jb (ws:=ws) (ρ:=[some (.tup ws),iV K]) (i:=0) (A:=A) rfl;have eq:zm jQ (mQ qu (qa (zU 0))) (zU 1) [some (.tup ws),iV K] A=.ok (.bl (decide (ws.length=K))) A:=(zE e (zi (i:=1) rfl)).trans ((wU _ _ _).trans (by congr 2;exact decide_eq_decide.mpr ⟨λz=>by lia,λz=>by lia⟩))
 by_cases q:ws.length=K
 ·rw[ay q]at eq ⊢
  refine(Z7 eq).trans ?_;have E:=YI (cap:=[]) (A:=A) (ρ:=[some (.tup ws),iV K]) (ws:=ws) (me:=zO Ju (zj (zU 0) zw)) (g:=λw=>.bl (yH w)) (zi (i:=0) rfl) (by unfold zX;lia) (λw H=>by obtain⟨ty,h⟩:=a w H;exact(zM (ws:=[w]) (A1:=A) rfl).trans (N8 h))
  refine(j0 E).trans ?_;rw[Bool.true_and];unfold Kh Zk;rw[GS];show R.ok (W.bl ((ws.map yH).all id)) A=_;rw[all_map]
  rfl
 ·rw[aG q]at eq ⊢
  exact Qv eq
def C8 (h:r.length<=8)(A:Hx):gz [zo r,.int r.length] A=.ok (.bl true) A:=Nk h A
variable {a b c e k:Nat}
def lX (l:qi t)(s:jI t)(j:qf t=(K:Int))(i:k<K):∃b,b<t.length/\at2 t 0 b=(k:Int):=by
 obtain⟨a,b,h,f,e⟩:=Qu l (v:=k) (by lia)
 have n:=l.n1;have D:at2 t 0 0=at2 t a a:=by rw[(l.dg 0 0 n n).mpr rfl,(l.dg a a h h).mpr rfl]
 have H:=s 0 0 a a n n h h D;have o:((k:Int),(k:Int))∈Zx t a a:=by unfold Zx;exact cu.mpr ⟨b,cj.mpr f,by rw[e]⟩
 obtain⟨c,d,E⟩:=cu.mp (H.mem_iff.mpr o);injection E with g _
 exact⟨c,cj.mp d,g⟩
end
def Mn (n:Nat)(f:Nat->Int)(v:Int):sm n (λi=>v * f i)=v * sm n f:=by
 induction n with|zero=>show(0:Int)=v * 0;rw[Int.mul_zero]|succ n I=>rw[wI,wI,I,Int.mul_add]
def AJ (n:Nat)(f:Nat->Int)(v:Int):sm n (λi=>f i * v)=sm n f * v:=by rw[Int.mul_comm,<- Mn];exact yr λi _=>Int.mul_comm _ _
def U9 (n m:Nat)(f:Nat->Nat->Int):sm n (λi=>sm m (f i))=sm m λj=>sm n λi=>f i j:=by
 induction n with
 |zero=>show(0:Int)=_;exact(Tw m).symm|succ n I=>
  rw[wI,I,<- lW];exact yr λj _=>(wI n λi=>f i j).symm
section
variable {K m j k:Nat}{w x z:bP}{S:List (bN)}
def Full (K:Nat)(S:List (bN))(w:bP):Prop:=∀i j,i<K->j<K->w.getD i 0 * w.getD j 0=sm K λk=>pS S k i j * w.getD k 0
structure Wt (K:Nat)(S:List (bN))(z w:bP):Prop where
 l:w.length=K
 o:w.getD 0 0=1
 b:∀i,i<K->-(z.getD i 0)<=w.getD i 0/\w.getD i 0<=z.getD i 0
 f:Full K S w
def UU:yz S w i j=true↔(∃t∈S.drop w.length,at2 t i j≠0)∨w.getD i 0 * w.getD j 0=sm w.length λk=>pS S k i j * w.getD k 0:=by
 unfold yz;rw[a3,any_eq_true,ao]
 have:(∃t∈S.drop w.length,(at2 t i j != 0)=true)↔∃t∈S.drop w.length,at2 t i j≠0:=by
  constructor
  ·rintro⟨t,H,h⟩;exact⟨t,H,by simpa using h⟩
  ·rintro⟨t,H,h⟩;exact⟨t,H,by simpa using h⟩
 rw[this];exact Iff.rfl
def Ng:yD S w=true↔∀i j,i<w.length->j<w.length->yz S w i j=true:=by
 unfold yD;rw[aY]
 constructor
 ·intro h i j a H
  exact cw.mp (h i (cj.mpr a)) j (cj.mpr H)
 ·intro h i a
  rw[aY];exactλj H=>h i j (cj.mp a) (cj.mp H)
def GY (b:S.length=K)(c:w.length=K):yD S w=true↔Full K S w:=by
 rw[Ng];unfold Full;rw[c];refine⟨λh i j a H=>?_,λh i j a H=>UU.mpr (.inr (by rw[c];exact h i j a H))⟩
 rcases UU.mp (h i j a H) with ⟨t,d,_⟩|e
 ·rw[c,List.drop_of_length_le (by lia)]at d
  cases d
 ·rw[c]at e;exact e
def Yy {l:bP}(h:i<m):(l.take m).getD i 0=l.getD i 0:=by rw[aa,List.getElem?_take_of_lt h,<- aa]
theorem Sa {f:Nat->Int}:∀d,(∀k,m<=k->k<m+d->f k=0)->sm (m+d) f=sm m f
 |0,_=>rfl|d+1,h=>by rw[<- Nat.add_assoc,wI,Sa d (λk H a=>h k H (by lia)),h (m+d) (by lia) (by lia),Int.add_zero]
def CB (c:S.length=K)(d:w.length=K)(f:Full K S w)(g:m<=K):yD S (w.take m)=true:=by
 have l:(w.take m).length=m:=by rw[bD];lia
 refine Ng.mpr λi j a H=>UU.mpr ?_;rw[l]at a H ⊢
 by_cases h:∃t∈S.drop m,at2 t i j≠0
 ·exact .inl h
 ·refine .inr ?_
  rw[Yy a,Yy H,f i j (by lia) (by lia)]
  have e:K=m+(K-m):=by lia
  rw[e,Sa (K-m) λk o n=>?_]
  ·exact yr λk b=>by rw[Yy b]
  ·have:at2 (S.getD k []) i j=0:=Decidable.byContradiction λq=>h ⟨S.getD k [],by
    rw[aa,ae (by lia)]
    exact List.mem_iff_getElem.mpr ⟨k-m,by rw[bE];lia,by rw[List.getElem_drop];congr 1;lia⟩,q⟩
   show at2 _ i j * _=0;rw[this,zero_mul]
theorem Sf {p:Nat->List Int->Bool}(H:Zs K z)(a:∀k,k+1<K->p (k+1) (w.take (k+1+1))=true)(d:Wt K S z w):∀k,k<K->w.take (k+1)∈ZS p z k
 |0,h=>by
  have:w.take 1=[1]:=by
   cases w with|nil=>have:=d.l;simp at this;lia|cons v w=>have:=d.o;rw[show(v::w).getD 0 0=v from rfl]at this;rw[this];rfl
  rw[this];exact cx.mpr rfl
 |k+1,h=>by
  have i:=Sf H a d k (by lia)
  have c:=d.l;have Z:=H.le h;have e:w.take (k+1+1)=w.take (k+1)++[w.getD (k+1) 0]:=by
   rw[take_succ (by lia),aa,ae (by lia)]
   rfl
  refine List.mem_filter.mpr ⟨?_,a k h⟩;rw[e];exact List.mem_flatMap.mpr ⟨_,i,K7.mpr ⟨_,(TQ (by lia)).mpr (d.b _ h),rfl⟩⟩
def A9 (H:1<=k)(h:w∈Ql S z k):yD S w=true:=by
 obtain⟨k,rfl⟩:∃j,k=j+1:=⟨k-1,by lia⟩
 exact(List.mem_filter.mp h).2
def N6 (H:Zs K z)(b:S.length=K)(u:1<=K)(q:K=1->pS S 0 0 0=1):w∈Ql S z (K-1)↔Wt K S z w:=by
 constructor
 ·intro h
  obtain⟨t,r,n,o⟩:=Yz H (K-1) (by lia) w h
  have a:w.length=K:=by lia
  refine⟨a,n,λi c=>o i (by lia),?_⟩
  by_cases e:K=1
  ·subst e
   intro i j c g
   have:i=0:=by lia
   subst this
   have:j=0:=by lia
   subst this;rw[n,wI];show(1:Int) * 1=sm 0 _+pS S 0 0 0 * w.getD 0 0;rw[q rfl,n]
   rfl
  ·exact(GY b a).mp (A9 (by lia) h)
 ·intro h
  have:=Sf (p:=λ_=>yD S) H (λk d=>CB b h.l h.f (by lia)) h (K-1) (by lia)
  rwa[bz (by have:=h.l;lia)]at this
theorem OV (x y:Int):∀w:bP,yj (w++[x]) (w++[y])=decide (x<y)
 |[]=>by
  show(if x=y then false else decide (x<y))=_
  split
  ·exact(aG (by lia)).symm
  ·rfl
 |c::w=>by
  show(if c=c then yj (w++[x]) (w++[y]) else _)=_;rw[ai rfl];exact OV x y w
theorem Nv (x y:Int):∀a b:bP,a.length=b.length->a≠b->yj (a++[x]) (b++[y])=yj a b
 |[],[],_,h=>absurd rfl h|[],_::_,h,_=>by cases h|_::_,[],h,_=>by cases h|c::a,d::b,h,hn=>by
  show(if c=d then yj (a++[x]) (b++[y]) else _)=if c=d then yj a b else _
  by_cases e:c=d
  ·rw[ai e,ai e]
   exact Nv x y a b (by injection h) λq=>hn (by rw[e,q])
  ·rw[aj e,aj e]
theorem U1:∀a b:bP,yj a b=true->yj b a=false
 |[],[],h=>by cases h|[],_::_,_=>rfl|_::_,[],h=>by cases h|c::a,d::b,h=>by
  change (if c=d then yj a b else decide (c<d))=true at h
  show(if d=c then yj b a else decide (d<c))=false
  by_cases e:c=d
  ·subst e
   rw[ai rfl]at h ⊢;exact U1 a b h
  ·rw[aj e,ao]at h
   rw[aj (Ne.symm e),decide_eq_false_iff_not];lia
def XX {a b:bP}(h:yj b a=true)(e:a=b):False:=by rw[e,BU]at h;cases h
theorem OT:∀{a b:bN},a.Pairwise (λx y=>yj y x=true)->b.Pairwise (λx y=>yj y x=true)->(∀x,x∈a↔x∈b)->a=b
 |[],[],_,_,_=>rfl|[],y::b,_,_,h=>absurd ((h y).mpr (aF ..)) bg|x::a,[],_,_,h=>absurd ((h x).mp (aF ..)) bg|x::a,y::b,d,c,h=>by
  obtain⟨A,a2⟩:=List.pairwise_cons.mp d;obtain⟨B,f⟩:=List.pairwise_cons.mp c;have e:x=y:=by
   rcases cn.mp ((h x).mp (aF ..)) with e|e
   ·exact e
   ·rcases cn.mp ((h y).mpr (aF ..)) with E|E
    ·exact E.symm
    ·have g:=U1 _ _ (B x e)
     rw[A y E]at g;cases g
  subst e;rw[OT a2 f λz=>⟨λH=>(cn.mp ((h z).mp (az _ H))).resolve_left λe=>XX (A z H) e.symm,λH=>(cn.mp ((h z).mpr (az _ H))).resolve_left λe=>XX (B z H) e.symm⟩]
theorem KS {p:Nat->List Int->Bool}(c:Zs K z):∀k,k<K->(ZS p z k).Pairwise λa b=>yj b a=true
 |0,_=>List.pairwise_singleton _ _|k+1,n=>by
  have i:=KS (p:=p) c k (by lia)
  have sh:=Yz (p:=p) c k (by lia)
  refine List.Pairwise.filter _ ?_;rw[List.pairwise_flatMap];refine⟨λw o=>?_,?_⟩
  ·unfold ext dn
   rw[aW,pairwise_map];refine List.pairwise_lt_range.imp λ {a b} h=>?_;show yj (w++[z.getD (k+1) 0-(b:Int)]) (w++[z.getD (k+1) 0-(a:Int)])=true;rw[OV];exact ay (by lia)
  ·refine List.Pairwise.imp_of_mem ?_ i
   intro a b l j H x g y f;obtain⟨v,_,rfl⟩:=K7.mp g;obtain⟨d,_,rfl⟩:=K7.mp f;exact(Nv d v b a (by rw[(sh a l).1,(sh b j).1]) λe=>XX H e.symm).trans H
def DE {p:Nat->List Int->Bool}(H:Zs K z)(k:Nat)(a:k<K):(ZS p z k).Nodup:=(KS H k a).imp λh e=>XX h e
theorem UJ  [DecidableEq α]:∀{l k:List α},l.Nodup->k.Nodup->(∀a,a∈l↔a∈k)->l.Perm k
 |[],k,_,_,h=>by
  cases k with|nil=>exact List.Perm.refl _|cons a k=>exact absurd ((h a).mpr (aF ..)) bg
 |a::l,k,H,c,h=>by
  have f:a∈k:=(h a).mp (aF ..);refine List.Perm.trans ?_ (List.perm_cons_erase f).symm;refine List.Perm.cons a (UJ (List.nodup_cons.mp H).2 (c.erase a) λb=>?_);rw[c.mem_erase_iff]
  constructor
  ·intro d
   exact⟨λe=>(List.nodup_cons.mp H).1 (e ▸ d),(h b).mp (az _ d)⟩
  ·rintro⟨j,i⟩
   rcases cn.mp ((h b).mpr i) with rfl|g
   ·exact absurd rfl j
   ·exact g
end
theorem XD  [BEq α] [LawfulBEq α] [DecidableEq α] (f:Nat->α)(v:α):∀n:Nat,((((List.range n).map f).count v:Nat):Int)=sm n λc=>if f c=v then 1 else 0
 |0=>rfl|n+1=>by
  rw[bf,aN,List.count_append,wI,<- XD f v n,aR,map_nil,List.count_singleton]
  by_cases h:f n=v
  ·rw[ai h,ai (aL.mpr h)]
   rfl
  ·rw[aj h,aj (λq=>h (aL.mp q))]
   rfl
section
variable {y z v:bP}{a b c e j k K:Nat}{S:Nat->List (bP)}
def lY (d:qi t)(H:a<t.length)(h:b<t.length)(i j:Nat):shr t a b t.length i j=sm t.length λc=>if (at2 t a c,at2 t b c)=((i:Int),(j:Int)) then 1 else 0:=by rw[YD d H h t.length (aq _) i j];exact XD (λc=>(at2 t a c,at2 t b c)) _ _
def Y3 (g:∀a b,a<t.length->b<t.length->je t K a b=S (at2 t a b).toNat)(l:qi t)(H:a<t.length)(h:b<t.length)(e:at2 t a b=(k:Int))(f:i<K)(d:j<K):at2 (S k) i j=sm t.length λc=>if (at2 t a c,at2 t b c)=((i:Int),(j:Int)) then 1 else 0:=by
 have:=g a b H h
 rw[e,aA]at this;rw[<- this];unfold je;rw[Wc f d,lY l H h]
def AK (l:∀a b,a<t.length->b<t.length->je t K a b=S (at2 t a b).toNat)(r:qi t)(p:qf t=(K:Int))(o:k<K)(g:i<K)(f:j<K):at2 (S k) i j=at2 (S k) j i:=by
 obtain⟨a,b,d,H,e⟩:=Qu r (v:=k) (by lia)
 rw[Y3 l r d H e g f,Y3 l r H d ((r.sy b a H d).trans e) f g];refine yr λc _=>?_
 by_cases q:(at2 t a c,at2 t b c)=((i:Int),(j:Int))
 ·rw[ai q,ai (by injection q with n Q;rw[n,Q])]
 ·rw[aj q,aj (λh=>q (by injection h with x u;rw[x,u]))]
def nb (t:bN)(a i:Nat):Int:=sm t.length λc=>if at2 t a c=(i:Int) then 1 else 0
def NW (f:qi t)(s:jI t)(e:a<t.length)(H:b<t.length)(i:Nat):nb t a i=nb t b i:=by
 have d:at2 t a a=at2 t b b:=by rw[(f.dg a a e e).mpr rfl,(f.dg b b H H).mpr rfl]
 have p:=s a a b b e e H H d;have h:∀q:Nat,nb t q i=((((Zx t q q).count ((i:Int),(i:Int)):Nat)):Int):=λq=>by
  unfold Zx nb;rw[XD];refine yr λc _=>?_
  by_cases h:at2 t q c=(i:Int)
  ·rw[ai h,ai (by rw[h])]
  ·rw[aj h,aj (λz=>h (by injection z))]
 rw[h,h,p.count_eq]
def B6 (r:∀a b,a<t.length->b<t.length->je t K a b=S (at2 t a b).toNat)(v:qi t)(f:i<K)(o:j<K)(d:k<K):nb t 0 k * at2 (S k) i j=nb t 0 i * at2 (S i) k j:=by
 have N:=v.n1;have h:∀{p q:Nat},p<K->q<K->nb t 0 p * at2 (S p) q j=sm t.length λb=>sm t.length λc=>if at2 t 0 b=(p:Int)/\at2 t 0 c=(q:Int)/\at2 t b c=(j:Int) then 1 else 0:=λ {p q} u n=>by
  unfold nb;rw[<- AJ];refine yr λb H=>?_
  by_cases e:at2 t 0 b=(p:Int)
  ·rw[ai e,Int.one_mul,Y3 r v N H e n o]
   refine yr λc _=>?_
   by_cases z:(at2 t 0 c,at2 t b c)=((q:Int),(j:Int))
   ·rw[ai z,ai (by injection z with l Z;exact⟨e,l,Z⟩)]
   ·rw[aj z,aj (λy=>z (by rw[y.2.1,y.2.2]))]
  ·rw[aj e,zero_mul]
   exact((yr λc _=>by rw[aj (λy=>e y.1)]).trans (Tw _)).symm
 rw[h d f,h f d,U9];refine yr λb H=>yr λc g=>?_
 by_cases z:at2 t 0 c=(k:Int)/\at2 t 0 b=(i:Int)/\at2 t c b=(j:Int)
 ·rw[ai z,ai ⟨z.2.1,z.1,(v.sy b c H g).trans z.2.2⟩]
 ·rw[aj z,aj (λy=>z ⟨y.2.1,y.1,(v.sy c b g H).trans y.2.2⟩)]
def NQ (f:qi t)(d:qf t=(K:Int))(a:b<t.length)(H:c<t.length)(v:Int):sm K (λj=>if at2 t b c=(j:Int) then v else 0)=v:=by
 have h:=JL f d a H;refine(yr λj _=>?_).trans (MK h.2 v)
 by_cases q:at2 t b c=(j:Int)
 ·rw[ai q,ai (by rw[q,aA])]
 ·rw[aj q,aj (λe=>q (by rw[<- h.1,e]))]
def lZ (l:∀a b,a<t.length->b<t.length->je t K a b=S (at2 t a b).toNat)(p:qi t)(s:jI t)(n:qf t=(K:Int))(o:k<K)(f:i<K):sm K (λj=>at2 (S k) i j)=nb t 0 i:=by
 obtain⟨a,b,H,h,e⟩:=Qu p (v:=k) (by lia)
 rw[NW p s p.n1 H i,yr λj d=>Y3 l p H h e f d,U9];unfold nb;refine yr λc g=>?_;rw[<- NQ p n h g (if at2 t a c=(i:Int) then 1 else 0)];refine yr λj _=>?_
 by_cases q:at2 t a c=(i:Int)
 ·rw[ai q]
  by_cases r:at2 t b c=(j:Int)
  ·rw[ai r,ai (by rw[q,r])]
  ·rw[aj r,aj (λz=>r (by injection z))]
 ·rw[aj (λz=>q (by injection z))]
  by_cases r:at2 t b c=(j:Int)
  ·rw[ai r,aj q]
  ·rw[aj r]
def l0 (a:qi t)(H:qf t=(K:Int)):sm K (λk=>nb t 0 k)=(t.length:Int):=by
 unfold nb;rw[U9,yr λc h=>NQ a H a.n1 h 1];generalize t.length=n
 induction n with|zero=>rfl|succ n i=>rw[wI,i];lia
def l6 (H:qi t):nb t 0 0=1:=by
 unfold nb;refine(yr λc h=>?_).trans (MK H.n1 1)
 by_cases q:c=0
 ·subst q
  exact(ai ((H.dg 0 0 H.n1 H.n1).mpr rfl)).trans (ai rfl).symm
 ·exact(aj (λe=>q ((H.dg 0 c H.n1 h).mp e).symm)).trans (aj q).symm
def Ox (b:qi t)(H:a<t.length):t.getD a []=(List.range t.length).map λc=>at2 t a c:=by
 have h:=b.sq _ (ki H);refine a8 (by rw[ag,aI,h]) λc d e=>?_
 rw[getElem_map,getElem_range];unfold at2;rw[aa (l:=t.getD a []),ae d]
 rfl
def JF (H:qi t)(h:k<K):(yo t K).getD k 0=nb t 0 k:=by unfold yo;rw[aa,ax,aU h];show(((t.getD 0 []).count (k:Int):Nat):Int)=_;rw[Ox H H.n1];exact XD (λc=>at2 t 0 c) (k:Int) t.length
def To:(yo t K).length=K:=by unfold yo;rw[ag,aI]
end
section
variable {a b j k K:Nat}
def SL (t:bN)(K:Nat):List (bN):=(List.range K).map λ(k:Nat)=>je t K (Qc t (k:Int)/t.length) (Qc t (k:Int)%t.length)
def NP (g:qi t)(f:qf t=(K:Int))(d:k<K):Qc t (k:Int)/t.length<t.length/\Qc t (k:Int)%t.length<t.length/\at2 t (Qc t (k:Int)/t.length) (Qc t (k:Int)%t.length)=(k:Int):=by
 have n:=g.n1;obtain⟨a,b,c,H,e⟩:=Qu g (v:=k) (by lia)
 have h:a * t.length+b<t.length * t.length:=by
  have i:a * t.length+t.length<=t.length * t.length:=by
   have:(a+1) * t.length<=t.length * t.length:=Nat.mul_le_mul_right _ c
   rwa[Nat.add_mul,Nat.one_mul]at this
  lia
 have l:(a * t.length+b)/t.length=a:=by rw[mul_comm,Nat.mul_add_div n,Nat.div_eq_of_lt H,Nat.add_zero]
 have j:(a * t.length+b)%t.length=b:=by rw[mul_comm,Nat.mul_add_mod,Nat.mod_eq_of_lt H]
 unfold Qc;cases hf:(List.range (t.length * t.length)).find? λm=>decide (at2 t (m/t.length) (m%t.length)=(k:Int)) with
 |none=>
  have:=List.find?_eq_none.mp hf (a * t.length+b) (cj.mpr h)
  rw[l,j,e]at this;simp at this
 |some m=>
  have i:=List.find?_some hf;have o:=cj.mp (List.mem_of_find?_eq_some hf);exact⟨Nat.div_lt_of_lt_mul o,Nat.mod_lt _ n,of_decide_eq_true i⟩
def TZ:(SL t K).length=K:=by unfold SL;rw[ag,aI]
def l7 (h:k<K):(SL t K).getD k []=je t K (Qc t (k:Int)/t.length) (Qc t (k:Int)%t.length):=by
 unfold SL;rw[aa,ax,aU h]
 rfl
def Wz (f:qi t)(s:jI t)(c:qf t=(K:Int))(a b:Nat)(H:a<t.length)(h:b<t.length):je t K a b=(λk=>(SL t K).getD k []) (at2 t a b).toNat:=by have n:=JL f c H h;obtain⟨e,d,r⟩:=NP f c n.2;show _=(SL t K).getD _ [];rw[l7 n.2];exact OY f s H h e d (by rw[r];exact n.1.symm)
def WA (f:qi t)(s:jI t)(H:qf t=(K:Int)):Zs K (yo t K):=by
 have kb:=km f;have n:=f.n8;refine⟨To,λv a=>?_,?_,?_⟩
 ·obtain⟨k,h,rfl⟩:=cu.mp a
  have h:=cj.mp h;obtain⟨b,d,e⟩:=lX f s H h;have j:(k:Int)∈t.getD 0 []:=by rw[Ox f f.n1];exact cu.mpr ⟨b,cj.mpr d,e⟩
  have:=List.count_pos_iff.mpr j
  lia
 ·have:(yo t K).sum=sm K λk=>nb t 0 k:=by
   unfold sm
   congr 1
   refine a8 (by rw[To,ag,aI]) λi g l=>?_
   have c:i<K:=by rw[To]at g;exact g
   rw[getElem_map,getElem_range,<- JF f c,aa,ae g]
   rfl
  rw[this,l0 f H];lia
 ·rw[JF f (by lia),l6 f]
def l8 (A:qi t)(s:jI t)(u:qf t=(K:Int)):Wf K (SL t K):=by
 have N:=A.n8;have g:∀m∈SL t K,∃a b,a<t.length/\b<t.length/\m=je t K a b:=λm y=>by obtain⟨k,n,rfl⟩:=cu.mp y;obtain⟨f,r,_⟩:=NP A u (cj.mp n);exact⟨_,_,f,r,rfl⟩
 refine⟨TZ,λm y=>?_,λm y=>?_,λm y i j=>?_⟩
 ·obtain⟨a,b,_,_,rfl⟩:=g m y
  exact GV
 ·obtain⟨a,b,_,_,rfl⟩:=g m y
  intro q d;unfold je jV at d;obtain⟨i,_,rfl⟩:=cu.mp d;rw[ag,aI]
 ·obtain⟨a,b,p,o,rfl⟩:=g m y
  by_cases h:i<K/\j<K
  ·unfold je
   rw[Wc h.1 h.2,YD A p o _ (aq _)]
   have:=List.count_le_length (a:=((i:Int),(j:Int))) (l:=(List.range t.length).map λc=>(at2 t a c,at2 t b c))
   rw[ag,aI]at this;lia
  ·have:at2 (je t K a b) i j=0:=by
    unfold at2
    by_cases B:i<K
    ·have x:¬j<K:=λq=>h ⟨B,q⟩
     have v:((je t K a b).getD i []).length=K:=by
      have H:(je t K a b).getD i []∈je t K a b:=ki (by unfold je;rw[GV];exact B)
      unfold je jV at H;obtain⟨q,_,e⟩:=cu.mp H;unfold je jV;rw[<- e,ag,aI]
     rw[aa (l:=(je t K a b).getD i []),aD (by lia)]
     rfl
    ·rw[aa (l:=je t K a b),aD (by unfold je;rw[GV];lia)]
     rfl
   lia
def l9 (H:qi t)(s:jI t)(h:qf t=(K:Int)):Dt t K (SL t K) (yo t K):=by
 have kb:=km H;have l:=Xz H;have n:=H.n8;refine⟨H,h,s,λA=>?_,λA=>AL H h A,l8 H s h,WA H s h,by lia,by lia⟩
 rw[Ci (S:=λk=>(SL t K).getD k []) H h (Wz H s h) A,KJ (SL t K) [] zp,TZ]
def MC (d:qi t)(s:jI t)(c:qf t=(K:Int)):Full K (SL t K) (yo t K):=λi j a H=>by
 have b:=Wz d s c;rw[JF d a,JF d H];have e:(sm K λk=>pS (SL t K) k i j * (yo t K).getD k 0)=sm K λk=>nb t 0 i * at2 ((SL t K).getD i []) k j:=yr λk h=>by rw[JF d h,Int.mul_comm];exact B6 (S:=λk=>(SL t K).getD k []) b d a H h
 rw[e,Mn,yr λk h=>AK (S:=λk=>(SL t K).getD k []) b d c a h H,lZ (S:=λk=>(SL t K).getD k []) b d s c a H]
variable {T:bN}{c e m v:Nat}{p o:bT}{q l x:bP}
def M9:(jf p).getD 0 0=0:=rfl
def M1 (H:p.Perm (List.range m))(b:k<=m):0<=(jf p).getD k 0/\(jf p).getD k 0<=(m:Int):=by
 have a:p.length=m:=by rw[H.length_eq,aI]
 by_cases h:k=0
 ·subst h
  rw[M9];lia
 ·rw[Q3 (by lia) (by lia)]
  have:=cj.mp (H.mem_iff.mp (aJ (l:=p) (n:=k-1) (by lia)))
  lia
def NY (H:p.Perm (List.range m))(a:v<=m):∃k,k<=m/\(jf p).getD k 0=(v:Int):=by
 have l:p.length=m:=by rw[H.length_eq,aI]
 by_cases h:v=0
 ·exact⟨0,by lia,by rw[M9,h];rfl⟩
 ·obtain⟨i,b,e⟩:=a4 (H.mem_iff.mpr (cj.mpr (show v-1<m by lia)))
  refine⟨i+1,by lia,?_⟩
  rw[Q3 (by lia) (by lia)]
  have:p[i+1-1]'(by lia)=v-1:=e
  rw[this];lia
structure Tn (T t:bN)(K:Nat)(p o:bT):Prop where
 hT:qi T
 ht:qi t
 kT:qf T=(K:Int)
 kt:qf t=(K:Int)
 len:t.length=T.length
 pp:p.Perm (List.range (K-1))
 oo:o.Perm (List.range T.length)
 at_:∀a b,a<T.length->b<T.length->at2 t a b=(jf p).getD (at2 T (o.getD a 0) (o.getD b 0)).toNat 0
def JX (h:o.Perm (List.range n))(b:a<n):o.getD a 0<n:=by
 have H:o.length=n:=by rw[h.length_eq,aI]
 rw[aa,ae (by lia)]
 exact cj.mp (h.mem_iff.mp (aJ _))
def X5 (h:o.Perm (List.range n))(d:a<n):∃b,b<n/\o.getD b 0=a:=by
 have H:o.length=n:=by rw[h.length_eq,aI]
 obtain⟨i,c,e⟩:=a4 (h.mem_iff.mpr (cj.mpr d));exact⟨i,by lia,by rw[aa,ae c];exact e⟩
def md (hT:qi T)(f:qf T=(K:Int))(g:p.Perm (List.range (qf T-1).toNat))(H:o.Perm (List.range T.length)):Tn T (w9 T p o) K p o:=by
 obtain⟨t,l⟩:=OI hT g H;have kb:=km hT;have h:p.Perm (List.range (K-1)):=by rwa[f,show((K:Int)-1).toNat=K-1 by lia]at g
 have at_:∀a b,a<T.length->b<T.length->at2 (w9 T p o) a b=(jf p).getD (at2 T (o.getD a 0) (o.getD b 0)).toNat 0:=λa b d c=>OP H d c;refine⟨hT,t,f,?_,l,h,H,at_⟩
 apply Int.le_antisymm
 ·obtain⟨a,b,d,c,e⟩:=Ts t.sq (Xf t)
  rw[l]at d c;rw[at_ a b d c]at e
  have:=(M1 h (k:=(at2 T (o.getD a 0) (o.getD b 0)).toNat) (by have:=(JL hT f (JX H d) (JX H c)).2;lia)).2
  lia
 ·obtain⟨k,n,e⟩:=NY h (v:=K-1) (aq _)
  obtain⟨x,y,j,i,E⟩:=Qu hT (v:=k) (by lia)
  obtain⟨a,d,rfl⟩:=X5 H j;obtain⟨b,c,rfl⟩:=X5 H i
  have:=Wr t (a:=a) (b:=b) (by lia) (by lia)
  rw[at_ a b d c,E,aA,e]at this;lia
def ON:∀{l k:bP},l.Perm k->l.sum=k.sum:=λh=>by
 induction h with|nil=>rfl|cons x _ a=>rw[sum_cons,sum_cons,a]|swap x y l=>rw[sum_cons,sum_cons,sum_cons,sum_cons];lia|trans _ _ I i=>exact I.trans i
def Lz (H:o.Perm (List.range n))(g:Nat->Int):sm n (λc=>g (o.getD c 0))=sm n g:=by
 have h:o.length=n:=by rw[H.length_eq,aI]
 unfold sm
 have:=KJ o 0 g
 rw[h]at this;rw[<- this];exact ON (H.map g)
def pi (p:bT)(k:Nat):Nat:=((jf p).getD k 0).toNat
def ZL (h:Tn T t K p o)(H:k<K):((pi p k:Nat):Int)=(jf p).getD k 0/\pi p k<K:=by
 have kb:=km h.hT;have a:=h.kT
 have:=M1 h.pp (k:=k) (by lia)
 unfold pi;lia
def TJ (h:Tn T t K p o)(H:k<K)(a:j<K)(e:pi p k=pi p j):k=j:=by
 have c:=(ZL h H).1;have b:=(ZL h a).1;have P:p.length=K-1:=by rw[h.pp.length_eq,aI]
 exact Nu ((h.pp.nodup_iff).mpr nodup_range) (by lia) (by lia) (by rw[<- c,<- b,e])
def Y1 (h:Tn T t K p o)(a:m<K):∃k,k<K/\pi p k=m:=by
 obtain⟨k,H,e⟩:=NY h.pp (v:=m) (by lia)
 exact⟨k,by lia,by unfold pi;rw[e,aA]⟩
def mf (h:Tn T t K p o)(g:Nat->Int):sm K (λk=>g (pi p k))=sm K g:=by
 have d:((List.range K).map (pi p)).Perm (List.range K):=by
  refine UJ ?_ nodup_range λm=>?_
  ·rw[List.Nodup,pairwise_map]
   exact List.Pairwise.imp_of_mem (λ {a b} i f c e=>c (TJ h (cj.mp i) (cj.mp f) e)) nodup_range
  ·rw[mem_map,List.mem_range]
   exact⟨λ⟨k,H,e⟩=>e ▸ (ZL h (cj.mp H)).2,λj=>let ⟨k,H,e⟩:=Y1 h j;⟨k,cj.mpr H,e⟩⟩
 unfold sm
 have:=ON (d.map g)
 rw[aW]at this;exact this
def mh (h:Tn T t K p o)(c:a<T.length)(H:b<T.length):at2 t a b=((pi p (at2 T (o.getD a 0) (o.getD b 0)).toNat:Nat):Int):=by rw[h.at_ a b c H,(ZL h (JL h.hT h.kT (JX h.oo c) (JX h.oo H)).2).1]
def X4 (h:Tn T t K p o)(c:a<T.length)(H:b<T.length)(d:k<K):at2 t a b=((pi p k:Nat):Int)↔at2 T (o.getD a 0) (o.getD b 0)=(k:Int):=by
 have n:=JL h.hT h.kT (JX h.oo c) (JX h.oo H);rw[mh h c H]
 constructor
 ·intro e
  have:=TJ h n.2 d (by lia)
  lia
 ·intro e
  rw[e,aA]
def mj (h:Tn T t K p o)(D:jI T)(I:jI t)(E:k<K)(d:i<K)(H:j<K):pS (SL t K) (pi p k) (pi p i) (pi p j)=pS (SL T K) k i j:=by
 have J:=h.kT;obtain⟨x,y,A,u,e⟩:=Qu h.hT (v:=k) (by lia)
 obtain⟨a,n,rfl⟩:=X5 h.oo A;obtain⟨b,g,rfl⟩:=X5 h.oo u;have l:a<t.length:=by rw[h.len];exact n
 have f:b<t.length:=by rw[h.len];exact g
 refine(Y3 (S:=λk=>(SL t K).getD k []) (Wz h.ht I h.kt) h.ht l f ((X4 h n g E).mpr e) (ZL h d).2 (ZL h H).2).trans (Eq.trans ?_ (Y3 (S:=λk=>(SL T K).getD k []) (Wz h.hT D h.kT) h.hT A u e d H).symm);rw[h.len];rw[<- Lz h.oo λc=>if (at2 T (o.getD a 0) c,at2 T (o.getD b 0) c)=((i:Int),(j:Int)) then 1 else 0];refine yr λc B=>?_;have r:=X4 h n B d;have Q:=X4 h g B H
 by_cases z:(at2 T (o.getD a 0) (o.getD c 0),at2 T (o.getD b 0) (o.getD c 0))=((i:Int),(j:Int))
 ·injection z with q Z
  rw[ai (by rw[r.mpr q,Q.mpr Z]),ai (by rw[q,Z])]
 ·rw[aj (λy=>z (by injection y with C Y;rw[r.mp C,Q.mp Y])),aj z]
def ml (h:Tn T t K p o)(S:jI T)(H:k<K):nb t 0 (pi p k)=nb T 0 k:=by
 have n:=h.hT.n1;rw[NW h.hT S n (JX h.oo n) k];unfold nb;rw[h.len,<- Lz h.oo λc=>if at2 T (o.getD 0 0) c=(k:Int) then 1 else 0];refine yr λc a=>?_;have q:=X4 h n a H
 by_cases z:at2 T (o.getD 0 0) (o.getD c 0)=(k:Int)
 ·rw[ai z,ai (q.mpr z)]
 ·rw[aj z,aj λy=>z (q.mp y)]
def Mt (h:Tn T t K p o)(S:jI T)(H:k<K):(yo t K).getD (pi p k) 0=(yo T K).getD k 0:=by rw[JF h.ht (ZL h H).2,JF h.hT H,ml h S H]
variable {w z:bP}
abbrev Rw (t:bN)(K:Nat):bN:=Ql (SL t K) (yo t K) (K-1)
def LN (a:qi t)(s:jI t)(H:qf t=(K:Int))(b:K=1):pS (SL t K) 0 0 0=1:=by
 subst b
 have:=MC a s H 0 0 (by lia) (by lia)
 rw[(WA a s H).h,wI,(WA a s H).h]at this;have e:sm 0 (λk=>pS (SL t 1) k 0 0 * (yo t 1).getD k 0)=0:=rfl;rw[e]at this;lia
def JM (H:qi t)(s:jI t)(h:qf t=(K:Int)):w∈Rw t K↔Wt K (SL t K) (yo t K) w:=by have kb:=km H;exact N6 (WA H s h) TZ (by lia) (LN H s h)
def Lc (H:qi t)(s:jI t)(h:qf t=(K:Int)):(Rw t K).Nodup:=by have kb:=km H;exact DE (WA H s h) (K-1) (by lia)
def ps (p:bT)(K:Nat)(w:bP):bP:=(List.range K).map λk=>w.getD (pi p k) 0
def Z9 (h:k<K):(ps p K w).getD k 0=w.getD (pi p k) 0:=by
 unfold ps;rw[aa,ax,aU h]
 rfl
def MD:(ps p K w).length=K:=by unfold ps;rw[ag,aI]
def M8 (c:w.length=K)(H:x.length=K)(h:∀k,k<K->w.getD k 0=x.getD k 0):w=x:=by
 refine a8 (by lia) λi b a=>?_
 have:=h i (by lia)
 rw[aa,ae b,aa,ae a]at this;exact this
def LX (h:Tn T t K p o):pi p 0=0:=rfl
def Lq (h:Tn T t K p o)(S:jI T)(n:jI t)(q:w.length=K):Wt K (SL t K) (yo t K) w↔Wt K (SL T K) (yo T K) (ps p K w):=by
 have kb:=km h.hT;have r:=h.kT;have l:Full K (SL t K) w↔Full K (SL T K) (ps p K w):=by
  have y:∀i j,i<K->j<K->((w.getD (pi p i) 0 * w.getD (pi p j) 0=sm K λk=>pS (SL t K) k (pi p i) (pi p j) * w.getD k 0)↔(ps p K w).getD i 0 * (ps p K w).getD j 0=sm K λk=>pS (SL T K) k i j * (ps p K w).getD k 0):=λi j a c=>by rw[Z9 a,Z9 c,<- mf h λk=>pS (SL t K) k (pi p i) (pi p j) * w.getD k 0];rw[show(sm K λk=>pS (SL t K) (pi p k) (pi p i) (pi p j) * w.getD (pi p k) 0)=sm K λk=>pS (SL T K) k i j * (ps p K w).getD k 0 from yr λk e=>by rw[mj h S n e a c,Z9 e]]
  constructor
  ·intro g i j a c
   exact(y i j a c).mp (g _ _ (ZL h a).2 (ZL h c).2)
  ·intro g i j a c
   obtain⟨I,H,rfl⟩:=Y1 h a;obtain⟨J,d,rfl⟩:=Y1 h c;exact(y I J H d).mpr (g I J H d)
 constructor
 ·intro g
  refine⟨MD,by rw[Z9 (by lia),LX h];exact g.o,λi a=>?_,l.mp g.f⟩
  rw[Z9 a,<- Mt h S a];exact g.b _ (ZL h a).2
 ·intro g
  refine⟨q,?_,λi a=>?_,l.mpr g.f⟩
  ·have:=g.o
   rwa[Z9 (by lia),LX h]at this
  ·obtain⟨I,H,rfl⟩:=Y1 h a
   have:=g.b I H
   rwa[Z9 H,<- Mt h S H]at this
def mn (h:Tn T t K p o)(d:w.length=K):∃x:bP,x.length=K/\ps p K x=w:=by
 have C:∀m:Nat,∃k:Nat,m<K->k<K/\pi p k=m:=λm=>by
  by_cases c:m<K
  ·obtain⟨k,f,e⟩:=Y1 h c
   exact⟨k,λ_=>⟨f,e⟩⟩
  ·exact⟨0,λz=>absurd z c⟩
 obtain⟨q,b⟩:=Classical.axiomOfChoice C;refine⟨(List.range K).map λm=>w.getD (q m) 0,by rw[ag,aI],M8 MD d λk H=>?_⟩
 have P:=(ZL h H).2;rw[Z9 H,aa (l:=List.map _ _),ax,aU P];show w.getD (q (pi p k)) 0=_;obtain⟨a,Q⟩:=b (pi p k) P;rw[TJ h a H Q]
def mu (h:Tn T t K p o)(S:jI T)(n:jI t):((Rw t K).map (ps p K)).Perm (Rw T K):=by
 refine UJ ?_ (Lc h.hT S h.kT) λw=>?_
 ·rw[List.Nodup,pairwise_map]
  refine List.Pairwise.imp_of_mem (λ {a b} j i c e=>c ?_) (Lc h.ht n h.kt);have f:=((JM h.ht n h.kt).mp j).l;have L:=((JM h.ht n h.kt).mp i).l;refine M8 f L λm q=>?_;obtain⟨k,d,rfl⟩:=Y1 h q;rw[<- Z9 d,<- Z9 d,e]
 ·rw[JM h.hT S h.kT,mem_map]
  constructor
  ·rintro⟨x,H,rfl⟩
   have g:=(JM h.ht n h.kt).mp H;exact(Lq h S n g.l).mp g
  ·intro g
   obtain⟨x,H,rfl⟩:=mn h g.l;exact⟨x,(JM h.ht n h.kt).mpr ((Lq h S n H).mpr g),rfl⟩
end
section
variable {w z:bP}{b k K:Nat}{S:List (bN)}
def getD_mem (h:k<w.length):w.getD k 0∈w:=by rw[aa,ae h];exact aJ _
def mem_getD {v:Int}(h:v∈w):∃k,k<w.length/\w.getD k 0=v:=by obtain⟨k,H,e⟩:=a4 h;exact⟨k,H,by rw[aa,ae H];exact e⟩
def Wt.sm (h:Wt K S z w)(a:Zs K z):∀v∈w,-9<v/\v<9:=λv c=>by
 obtain⟨k,d,rfl⟩:=mem_getD c;have H:k<K:=by rw[<- h.l];exact d
 have:=h.b k H
 have:=a.le H
 lia
end
def Sb (l:A.length<=B.length)(h:∀q,q<A.length->B[q]? =A[q]?):Ext A B:=⟨B.drop A.length,by
 apply ext_getElem?
 intro q
 by_cases H:q<A.length
 ·rw[ah H]
  exact h q H
 ·rw[au (by lia),List.getElem?_drop]
  congr 1
  lia⟩
def Na {l:bT}{x y:Nat}(h:x<l.length):(l++[y]).getD x 0=l.getD x 0:=by rw[aa,ah h,<- aa]
def O2 {l:bT}{y:Nat}:(l++[y]).getD l.length 0=y:=by
 rw[aa,au (aq _),sub_self]
 rfl
def Sh (B:Hx)(l r K:Nat)(M:bN):Prop:=l<=r/\∃I:bT,B[r]? =some (.lst (I.map W.ref))/\I.length=K/\∀i,i<K->l<=I.getD i 0/\B[I.getD i 0]? =some (.lst ((M.getD i []).map W.int))
def Sh.mono {C:Hx}{L l r K:Nat}{M:bN}(h:Sh B L r K M)(b:l<=L)(g:∀q o,l<=q->B[q]? =some o->C[q]? =some o):Sh C l r K M:=by obtain⟨e,I,d,c,a⟩:=h;exact⟨by lia,I,g _ _ (by lia) d,c,λi H=>⟨by have:=(a i H).1;lia,g _ _ (by have:=(a i H).1;lia) (a i H).2⟩⟩
def mv {a b:Ev}{e:Hx}{y:W}(c:a ρ A=.ok (.ref n) A1)(d:A1[n]? =some (.lst ws))(H:b ρ A1=.ok y e):yu g a b ρ A=g (.ref n) y e:=by
 unfold yu;have h:Qn (.ref n) A1=true:=by unfold Qn;dsimp only;rw[d]
 rw[c,zJ,ai h,H,zJ]
section
variable {a b j k K:Nat}
abbrev fs (t:bN)(a b:Nat)(e d c X x:Option W):En:=[some (zp t),iO a,iO b,e,d,c,X,x]
def WY (t:bN)(a b i j:Nat):Int:=shr t a b t.length i j
abbrev cE:Ev:=yu YW (jP (qD 1 [0,1,2,5,7] (jU (mQ qu (qa zI))) (zQ 0) jl (qw (kP (zm jQ (zm zH (zm zH zD qg) zI) ql) (zm jQ (zm zH (zm zH zD qb) zI) jX))))) jl
theorem Mc (p:Nat->Bool):∀(l:bT),(l.map λc=>W.bl (p c)).countP (λw=>J0 w (.bl true))=l.countP p
 |[]=>rfl|x::l=>by
  rw[aR,bF,bF,Mc p l]
  congr 2
  cases p x<;>rfl
def mx (h:qi t)(f:a<t.length)(e:b<t.length){y4 y6:Option W}{x3:Option W}:∃l,cE (fs t a b x3 y4 (iO i) y6 (iO j)) A=.ok (.int (WY t a b i j)) (A++[.lst l]):=by
 have o:=h.n8;generalize H:(fs t a b x3 y4 (iO i) y6 (iO j))=ρ;have E:=gB (cap:=[0,1,2,5,7]) (mi:=jU (mQ qu (qa zI))) (ρ:=ρ) (A:=A) (N:=t.length) (item:=λc=>.int (0+(c:Int))) (g:=λc=>.bl (decide (at2 t a c=(i:Int))&&decide (at2 t b c=(j:Int))))
  (me:=kP (zm jQ (zm zH (zm zH zD qg) zI) ql) (zm jQ (zm zH (zm zH zD qb) zI) jX))
  (yS (len_tab (by rw[<- H];rfl)) (QY (by lia))) (by rw[aA];rfl) (by unfold zX;lia) (λc d=>by rw[aA];exact yh d) (by rw[aA];exact yf (by lia))
  (λc d=>by rw[<- H,Int.zero_add];exact WD ((zE (Vy h (zi rfl) (zi rfl) (zi rfl) f d) (zi rfl)).trans (wU _ _ _)) ((zE (Vy h (zi rfl) (zi rfl) (zi rfl) e d) (zi rfl)).trans (wU _ _ _)))
 refine⟨(List.range t.length).map λc=>W.bl (decide (at2 t a c=(i:Int))&&decide (at2 t b c=(j:Int))),(mv (kf E) qN zN).trans ?_⟩;unfold YW;dsimp only;rw[qN];dsimp only;rw[ai]
 ·congr 2
  rw[Xi,Mc,zero_add];unfold WY;rw[YD h f e _ (aq _)]
  congr 1
  rw[List.count,List.countP_map];refine List.countP_congr λc _=>?_;simp only[Function.comp,ak,ao,aL,Prod.mk.injEq]
 ·rw[ak,aY]
  refine⟨rfl,λw n=>?_⟩;obtain⟨c,_,rfl⟩:=cu.mp n
  rfl
def my (h:qi t)(C:qf t=(K:Int))(v:a<t.length)(u:b<t.length)(A:Hx):∃B,Up [zp t,.int (a:Int),.int (b:Int)] A=.ok (.ref A.length) B/\Ext A B/\Sh B A.length A.length K (je t K a b):=by
 have kb:=km h;have M:=Xz h;have n8:=h.n8;have kn:jG (K:Int)=true:=QY (by lia)
 obtain⟨o,B,e,P,X,U,Y,rfl,T,g2,g3,n⟩:=yK (j:=jE 0 K) (st:=turn (zQ 5) (zG (qA 6 (qO zw)) (zG (jM (jU qb) (zQ 7) (zG (wg (yu kg kU cE)) zS)) (zG (wg (yu kg ql kU)) zS)))) (N:=K)
  (I:=λi Q B=>∃(P:bT) (X U Y:Option W),Q=(fs t a b (iO K) (rO A.length) X U Y)/\B[A.length]? =some (.lst (P.map W.ref))/\P.length=i/\(∀x,x<i->A.length<P.getD x 0/\B[P.getD x 0]? =some (.lst ((List.range K).map λj=>W.int (WY t a b x j))))/\∀q,q<A.length->B[q]? =A[q]?)
  (λi Q D f ⟨P,X,U,Y,H,T,g2,g3,n⟩=>by
   subst H;have d:=jS T;refine⟨.int (0+(i:Int)),?_⟩;rw[Int.zero_add];obtain⟨ρ1,B,L,y,rfl,Z,S,k3⟩:=yK (j:=jE 0 K) (st:=turn (zQ 7) (zG (wg (yu kg kU cE)) zS)) (N:=K)
    (I:=λj Q B=>∃Y,Q=(fs t a b (iO K) (rO A.length) (iO i) (rO D.length) Y)/\B[D.length]? =some (.lst ((List.range j).map λj=>W.int (WY t a b i j)))/\(∀q,q<D.length->B[q]? =D[q]?)/\D.length<B.length)
    (λj Q B r ⟨Y,H,Z,S,k3⟩=>by
     subst H;obtain⟨l,J⟩:=mx (A:=B) (i:=i) (j:=j) h v u (y4:=rO A.length) (y6:=rO D.length) (x3:=iO K);refine⟨.int (0+(j:Int)),(fs t a b (iO K) (rO A.length) (iO i) (rO D.length) (iO j)),(B++[O.lst l]).set D.length (O.lst ((List.range (j+1)).map λj=>W.int (WY t a b i j))),yh r,?_,_,rfl,?_,λq c=>?_,?_⟩
     ·rw[Int.zero_add]
      refine(jY rfl).trans ((zA (kj (w:=.non) ((Jx (zi rfl) Z J).trans ((GK (jx Z) (by simp;lia)).trans ?_)))).trans qx)
      rw[bf,aN]
      rfl
     ·exact ar (by simp;lia)
     ·rw[av (by lia),ah (by lia)]
      exact S q c
     ·simp;lia)
    (λQ B _=>yf (by lia)) K 0 (fs t a b (iO K) (rO A.length) (iO i) (rO D.length) Y) (D++[O.lst []]) (by lia) ⟨Y,rfl,qN,λq c=>ah c,by simp⟩
   have E:B[A.length]? =some (.lst (P.map W.ref)):=(S _ d).trans T;refine⟨(fs t a b (iO K) (rO A.length) (iO i) (rO D.length) y),B.set A.length (O.lst ((P++[D.length]).map W.ref)),(yh f).trans (by rw[Int.zero_add]),?_,P++[D.length],_,_,_,rfl,?_,by rw[aw,g2];rfl,λx p=>?_,λq c=>?_⟩
   ·refine(jY rfl).trans ((zA ((qj (jB zF)).trans rfl)).trans ((zA ((jC (yS (zi rfl) kn)).trans ?_)).trans ((zA (kj (w:=.non) ((Jx (zi rfl) E (zi rfl)).trans ((GK E (by simp;lia)).trans ?_)))).trans qx)))
    ·rw[aA]
     exact L
    ·rw[aN]
     rfl
   ·exact ar (by lia)
   ·by_cases g:x<i
    ·obtain⟨f1,f2⟩:=g3 x g
     rw[Na (by lia),av (by lia),S _ (jS f2)]
     exact⟨f1,f2⟩
    ·obtain rfl:x=P.length:=by lia
     rw[O2,av (by lia),g2]
     exact⟨d,Z⟩
   ·rw[av (by lia),S _ (by lia)]
    exact n q c)
  (λQ B _=>yf (by lia)) K 0 (fs t a b (iO K) (rO A.length) none none none) (A++[O.lst []]) (by lia) ⟨[],none,none,none,rfl,qN,rfl,λx p=>by lia,λq c=>ah c⟩
 refine⟨B,qM ?_,Sb (by have:=jS T;lia) n,aq _,P,T,g2,λi f=>⟨by have:=(g3 i f).1;lia,(g3 i f).2.trans ?_⟩⟩
 ·dsimp only[Uh,mq]
  refine(zA ((qj ((zM (zr (zi rfl) zF)).trans ((Gx h A).trans (by rw[C])))).trans rfl)).trans ((zA ((qj (jB zF)).trans rfl)).trans ((zA (ρ1:=(fs t a b (iO K) (rO A.length) X U Y)) (A1:=B) ((jC (yS (k:=(K:Int)) (zi rfl) kn)).trans ?_)).trans (qh (qH (zi rfl)))))
  rw[aA];exact e
 ·unfold je jV
  rw[aa,ax,aU f];show _=some (O.lst (((List.range K).map (shr t a b t.length i)).map W.int));rw[aW]
  rfl
end
def Zv (S:List (bN))(K r k:Nat)(B:Hx):Prop:=∃a:bT,B[r]? =some (.lst (a.map W.ref))/\a.length=k/\∀x,x<k->Sh B (r+1) (a.getD x 0) K (S.getD x [])
section
variable {s:List (bN)}{K k a b r:Nat}{C:Hx}{u:bN}
def Zv.ext (h:Zv s K r k B)(x:Ext B C):Zv s K r k C:=let ⟨b,d,c,a⟩:=h;⟨b,x.at d,c,λy H=>(a y H).mono (aq _) λ_ _ _ e=>x.at e⟩
abbrev fo (u:bN)(n:Nat)(a X x:Option W):En:=[some (zp u),rO n,a,X,x]
def NS (u:bN)(s:List (bN))(K k:Nat)(A:Hx)(p:Nat)(B:Hx):Prop:=
 (∀q,q<A.length->B[q]? =A[q]?)/\((Zv s K A.length k B/\∀a b,a<u.length->b<u.length->a * u.length+b<p->at2 u a b≠(k:Int))∨Zv s K A.length (k+1) B)
abbrev VH:Ex:=zG (jk (kP (zm jQ (mQ qu (qa zD)) qg) (zm jQ (zm zH (zm zH zI qb) ql) qg)) (zG (wg (yu kg zD (zO Up (zj zI (zj qb (zj ql zw)))))) zS) zS) zS
def YM {r:Nat}(h:ρ[i]? =some (rO r))(H:B[r]? =some (.lst ws)):mQ qu (qa (zU i)) ρ B=.ok (.int ws.length) B:=
 (j0 (yL (zi h) (by unfold zW;dsimp only;rw[H]))).trans rfl
def mz (h:qi u)(I:qf u=(K:Int))(sh:∀a b,a<u.length->b<u.length->je u K a b=s.getD (at2 u a b).toNat [])(Z:k<K)(y:a<u.length)(f:b<u.length)(N:NS u s K k A (a * u.length+b) B):
  ∃C,VH (fo u A.length (iO k) (iO a) (iO b)) B=.ok (.nx (fo u A.length (iO k) (iO a) (iO b))) C/\NS u s K k A (a * u.length+b+1) C:=by
 have kb:=km h;rcases N with ⟨p,⟨⟨ks,g1,g2,g3⟩,hn⟩|⟨ks,g1,g2,g3⟩⟩
 ·have E:=YM (ρ:=(fo u A.length (iO k) (iO a) (iO b))) (i:=1) rfl g1
  rw[ag,g2]at E;have g:=(zE E (zi (i:=2) rfl)).trans (wU (k:Int) (k:Int) B);have P:=(zE (Vy h (zi (i:=0) rfl) (zi (i:=3) rfl) (zi (i:=4) rfl) y f) (zi (ρ:=(fo u A.length (iO k) (iO a) (iO b))) (i:=2) rfl)).trans (wU (at2 u a b) (k:Int) B);have c:=WD g P;rw[ay rfl,Bool.true_and]at c
  by_cases v:at2 u a b=(k:Int)
  ·rw[ay v]at c
   obtain⟨C,M,X,D⟩:=my h I y f B;have c1:=X.at g1;have T:=jS g1;have S:=X.len;rw[sh a b y f,v,aA]at D;refine⟨C.set A.length (.lst ((ks++[B.length]).map W.ref)),(zA ((yC c).trans ((zA (kj (w:=.non) ((Jx (zi rfl) g1 ((zM (zr (zi rfl) (zr (zi rfl) (zr (zi rfl) zF)))).trans M)).trans ((GK c1 (by rw[ag];lia)).trans ?_)))).trans qx))).trans qx,λq d=>?_,.inr ⟨ks++[B.length],?_,by rw[aw,g2];rfl,λx U=>?_⟩⟩
   ·rw[aN]
    rfl
   ·rw[av (by lia),<- p q d]
    obtain⟨l,rfl⟩:=X;exact ah (by lia)
   ·exact ar (by lia)
   ·have st:∀q o,A.length+1<=q->C[q]? =some o->(C.set A.length (.lst ((ks++[B.length]).map W.ref)))[q]? =some o:=λq o d e=>by rw[av (by lia)];exact e
    by_cases r:x<k
    ·rw[Na (by lia)]
     exact(g3 x r).mono (aq _) λq o d e=>st q o d (X.at e)
    ·obtain rfl:x=ks.length:=by lia
     rw[O2,g2];exact D.mono (by lia) st
  ·rw[aG v]at c
   refine⟨B,(zA ((jT c).trans qx)).trans qx,p,.inl ⟨⟨ks,g1,g2,g3⟩,λn j t H Y=>?_⟩⟩
   by_cases e:n * u.length+j<a * u.length+b
   ·exact hn n j t H e
   ·have Q:n * u.length+j=a * u.length+b:=by lia
    have L:n=a:=by
     have h1:=congrArg (· / u.length) Q
     rwa[mul_comm,Nat.mul_add_div (by lia),Nat.div_eq_of_lt H,mul_comm a,Nat.mul_add_div (by lia),Nat.div_eq_of_lt f]at h1
    subst L;have J:j=b:=by lia
    subst J;exact v
 ·have E:=YM (ρ:=(fo u A.length (iO k) (iO a) (iO b))) (i:=1) rfl g1
  rw[ag,g2]at E;have g:=(zE E (zi (i:=2) rfl)).trans (wU ((k+1:Nat):Int) (k:Int) B);rw[aG (by lia)]at g
  exact⟨_,(zA ((jT (Qv g)).trans qx)).trans qx,p,.inr ⟨ks,g1,g2,g3⟩⟩
def Ld (h:qi u)(i:qf u=(K:Int))(sh:∀a b,a<u.length->b<u.length->je u K a b=s.getD (at2 u a b).toNat [])(A:Hx):∃B,R9 [zp u] A=.ok (.ref A.length) B/\Ext A B/\Zv s K A.length K B:=by
 have kb:=km h;have n8:=h.n8;have kn:jG (K:Int)=true:=QY (by lia)
 have X:jG (u.length:Int)=true:=QY (by lia)
 obtain⟨o,B,e,Y,y,T,rfl,g,gN⟩:=yK (j:=jE 0 K) (st:=turn (zQ 2) (zG (jM (jU (mQ qu (qa zI))) (zQ 3) (zG (jM (jU (mQ qu (qa zI))) (zQ 4) VH) zS)) zS)) (N:=K)
  (I:=λk U B=>∃Y y T,U=(fo u A.length Y y T)/\(∀q,q<A.length->B[q]? =A[q]?)/\Zv s K A.length k B)
  (λk U B f ⟨Y,y,T,H,g,gN⟩=>by
   subst H;obtain⟨ρ1,P,D,p,Z,rfl,n⟩:=yK (j:=jE 0 u.length) (st:=turn (zQ 3) (zG (jM (jU (mQ qu (qa zI))) (zQ 4) VH) zS)) (N:=u.length)
    (I:=λa U B=>∃y T,U=(fo u A.length (iO k) y T)/\NS u s K k A (a * u.length) B)
    (λa U B c ⟨y,T,H,N⟩=>by
     subst H;obtain⟨l,M,t,Z,rfl,L⟩:=yK (j:=jE 0 u.length) (st:=turn (zQ 4) VH) (N:=u.length)
      (I:=λb U B=>∃T,U=(fo u A.length (iO k) (iO a) T)/\NS u s K k A (a * u.length+b) B)
      (λb U B d ⟨T,H,N⟩=>by subst H;obtain⟨C,E,J⟩:=mz h i sh f c d N;exact⟨_,_,C,yh d,(jY (by rw[Int.zero_add];rfl)).trans E,_,rfl,J⟩)
      (λU B _=>yf (by lia)) u.length 0 (fo u A.length (iO k) (iO a) T) B (by lia) ⟨T,rfl,N⟩
     refine⟨.int (0+(a:Int)),(fo u A.length (iO k) (iO a) Z),M,yh c,(jY (by rw[Int.zero_add];rfl)).trans ((zA ((jC (yS (len_tab rfl) X)).trans ?_)).trans qx),_,_,rfl,?_⟩
     ·rw[aA]
      exact t
     ·rw[succ_mul]
      exact L)
    (λU B _=>yf (by lia)) u.length 0 (fo u A.length (iO k) y T) B (by lia) ⟨y,T,rfl,g,.inl ⟨gN,λa b _ _ S=>by lia⟩⟩
   refine⟨.int (0+(k:Int)),(fo u A.length (iO k) p Z),P,yh f,(jY (by rw[Int.zero_add];rfl)).trans ((zA ((jC (yS (len_tab rfl) X)).trans ?_)).trans qx),_,_,_,rfl,n.1,?_⟩
   ·rw[aA]
    exact D
   ·rcases n.2 with ⟨_,hn⟩|z
    ·exfalso
     obtain⟨a,b,c,d,e⟩:=Qu h (v:=k) (by lia)
     refine hn a b c d ?_ e
     have:(a+1) * u.length<=u.length * u.length:=Nat.mul_le_mul_right _ c
     rw[succ_mul]at this;lia
    ·exact z)
  (λU B _=>yf (by lia)) K 0 (fo u A.length none none none) (A++[.lst []]) (by lia) ⟨none,none,none,rfl,λq r=>ah r,[],qN,rfl,λx Q=>by lia⟩
 refine⟨B,qM ?_,Sb (by obtain⟨ks,g1,_⟩:=gN;have:=jS g1;lia) g,gN⟩
 dsimp only[Ua,mq];refine(zA (ρ1:=(fo u A.length none none none)) (A1:=A++[.lst []]) ((qj (jB zF)).trans rfl)).trans ((zA (ρ1:=(fo u A.length Y y T)) (A1:=B) ((jC (yS (k:=(K:Int)) ((zM (zr (zi rfl) zF)).trans ((Gx h _).trans (by rw[i]))) kn)).trans ?_)).trans (qh (qH (zi rfl))))
 rw[aA];exact e
end
noncomputable def Lk (i:Nat):Nat->Hx
 |0=>[.lst (ZQ i 0 3)]|k+1=>Lk i k++[.lst (ZQ i (3 * (k+1)) 3),.lst (ZQ i 0 (3 * (k+2)))]
def GX (i:Nat):Hx:=Lk i 5++[.lst [.int i]]
noncomputable def wm (x:Str):Option Nat:=if x = "NoTable" then some 0 else if x = "NotSteady" then some 1 else if x = "NoMix" then some 4 else if x = "NoWeights" then some 15 else none
def Ob (h:wm x=some i):(x = "NoTable" /\ i=0)∨(x = "NotSteady" /\ i=1)∨(x = "NoMix" /\ i=4)∨(x = "NoWeights" /\ i=15):=by
 unfold wm at h
 by_cases c:x = "NoTable"
 ·rw[ai c]at h;cases h;exact .inl ⟨c,rfl⟩
 ·rw[aj c]at h
  by_cases b:x = "NotSteady"
  ·rw[ai b]at h;cases h;exact .inr (.inl ⟨b,rfl⟩)
  ·rw[aj b]at h
   by_cases a:x = "NoMix"
   ·rw[ai a]at h;cases h;exact .inr (.inr (.inl ⟨a,rfl⟩))
   ·rw[aj a]at h
    by_cases H:x = "NoWeights"
    ·rw[ai H]at h;cases h;exact .inr (.inr (.inr ⟨H,rfl⟩))
    ·rw[aj H]at h;cases h
theorem Wj (i:Nat):∀k,(Lk i k).length=2 * k+1
 |0=>rfl|k+1=>by
  unfold Lk;rw[aw,Wj i k]
  rfl
def K5 {k:Nat}{u:W}{a:Ea}(H:∀m A,a [some u,some (.xc x),none,m] A=.ok (ZQ i (3 * (k+1)) 3) A)(b:k<6:=by decide):qA 3 (zm qJ qb (qO a)) [some u,some (.xc x),none,rO (A.length+2 * k)] (A++Lk i k)=.ok (.nx [some u,some (.xc x),none,rO (A.length+2 * (k+1))]) (A++Lk i (k+1)):=by
 have h:(Lk i k)[2 * k]? =some (.lst (ZQ i 0 (3 * (k+1)))):=by
  cases k with
  |zero=>rfl|succ k=>
   unfold Lk;rw[au (by rw[Wj];lia),Wj,show 2 * (k+1)-(2 * k+1)=1 by lia]
   rfl
 have:=C6 (A:=A) h H (by simp[ZQ];lia) (zs:=ZQ i 0 (3 * (k+2))) (by
  unfold ZQ;rw[<- aN]
  congr 1
  have:=List.range'_append_1 (s:=0) (m:=3 * (k+1)) (n:=3)
  rwa[zero_add]at this)
 rw[Wj]at this;exact this
def Bm (e:wm x=some i)(u:W)(A:Hx):V2 [some u,some (.xc x),none,none] A=.ok (.rt (.ref (A.length+11))) (A++GX i):=by
 have two:=Ob e;unfold V2;have z:∀{P:Str->Nat->Prop},P "NoTable" 0->P "NotSteady" 1->P "NoMix" 4->P "NoWeights" 15->P x i:=λa b c d=>by rcases two with ⟨rfl,rfl⟩|⟨rfl,rfl⟩|⟨rfl,rfl⟩|⟨rfl,rfl⟩<;>assumption
 refine(zA (ρ1:=[some u,some (.xc x),none,rO (A.length+2 * 0)]) (A1:=A++Lk i 0) ((qj (jB (z (P:=λx i=>zj _ (zj _ (zj _ zw)) [some u,some (.xc x),none,none] A=.ok (ZQ i 0 3) A) (by kernel_rfl) (by kernel_rfl) (by kernel_rfl) (by kernel_rfl)))).trans rfl)).trans ?_
 refine(zA (K5 λm A=>?_)).trans ((zA (K5 λm A=>?_)).trans ((zA (K5 λm A=>?_)).trans ((zA (K5 λm A=>?_)).trans ((zA (K5 λm A=>?_)).trans ?_))))
 iterate 5 · rcases two with ⟨rfl,rfl⟩|⟨rfl,rfl⟩|⟨rfl,rfl⟩|⟨rfl,rfl⟩<;>kernel_rfl
 have H:(A++Lk i 5).length=A.length+11:=by rw[aw,Wj]
 have f:(A++Lk i 5)[A.length+10]? =some (.lst (ZQ i 0 18)):=by rw[au (by lia),show A.length+10-A.length=10 by lia];rfl
 unfold GX;rw[<- aP];generalize A++Lk i 5=B at H f;refine(zA (ρ1:=[some u,some (.xc x),none,rO (A.length+10)]) (A1:=B) ((jT (A1:=B) (yM (k:=true) ?_)).trans rfl)).trans (qh (qH ?_))
 ·rcases two with ⟨rfl,rfl⟩|⟨rfl,rfl⟩|⟨rfl,rfl⟩|⟨rfl,rfl⟩<;>kernel_rfl
 have E:=Oe (cap:=[3]) (mi:=jU (zT (.int 18))) (j:=jE 0 18) (ifs:=zm zH zD zI) (me:=zU 0) (ρ:=[some u,some (.xc x),none,rO (A.length+10)]) (A:=B) (N:=18) (item:=λk=>.int (0+(k:Int))) (g:=λk=>.int (0+(k:Int))) (keep:=λk=>decide (k=i)) rfl rfl (by unfold zX;lia) (λk h=>yh h) (yf (by lia))
  (λk h=>by
   refine(zE (zi (i:=1) (w:=.ref (A.length+10)) rfl) (zi (i:=0) (w:=.int (0+(k:Int))) rfl)).trans ?_;rw[Int.zero_add];refine wH f ?_;unfold ZQ;rw[ax,List.getElem?_range' (by lia)]
   simp) (λk h _=>rfl)
 rw[kf E,H,show((List.range 18).filter λk=>decide (k=i)).map (λk:Nat=>W.int (0+(k:Int)))=[.int i] by rcases two with ⟨rfl,rfl⟩|⟨rfl,rfl⟩|⟨rfl,rfl⟩|⟨rfl,rfl⟩<;>rfl]
def mB (h:wm x=some i):jJ.contains x=true:=by rcases Ob h with ⟨rfl,_⟩|⟨rfl,_⟩|⟨rfl,_⟩|⟨rfl,_⟩<;>decide +kernel
def RG (t:Lm)(k:Nat)(b:List W)(A:Hx):R W:=match gj [t] k b A with
 |.exc x a=>(match wm x with|some i=>.ok (.ref (a.length+11)) (a++GX i)|none=>.bad)
 |_=>.bad
section
variable {PG:Zl}{k:Nat}{t:Lm}{q:Str}
def mC (H:gj [t] k ws A=.exc x A1)(h:wm x=some i):
  qo 4 (KI PG (gj [t])) [.clo k ws (PG k)] A=.ok (.ref (A1.length+11)) (A1++GX i):=by
 have E:Vk 0 PG (gj [t]) [some (.clo k ws (PG k)),some .non,none,none] A=.exc x A1:=by unfold Vk;refine(ai rfl).trans H
 have e:WJ 0 1 2 jJ PG (gj [t]) [some (.clo k ws (PG k)),some .non,none,none] A=.ok (.nx [some (.clo k ws (PG k)),some (.xc x),none,none]) A1:=by
  unfold WJ;rw[E];dsimp only;rw[ai (mB h)]
  rfl
 refine qM ?_;unfold KI;refine(zA (ρ1:=[some (.clo k ws (PG k)),some .non,none,none]) (A1:=A) rfl).trans ?_;exact(zA e).trans (Bm h _ A1)
def Lf (H:gj [t] k ws A=.exc x A1)(h:wm x=some i):RG t k ws A=.ok (.ref (A1.length+11)) (A1++GX i):=by unfold RG;rw[H];dsimp only;rw[h]
set_option tactic.hygienic true in
def MO (u:List W)(A:Hx):QL PG (RG t) u A=.bad∨qo 4 (KI PG (gj [t])) u A=QL PG (RG t) u A:=by
 by_cases H:QL PG (RG t) u A=.bad
 ·exact .inl H
 right
 unfold QL at H ⊢
 split
 ·rename_i k b P
  dsimp only at H
  by_cases a:P=PG k
  ·subst a
   rw[ai rfl]at H ⊢;cases e:gj [t] k b A with
   |exc x c=>
    cases hm:wm x with|none=>exfalso;apply H;unfold RG;rw[e];dsimp only;rw[hm]|some i=>rw[mC e hm,Lf e hm]
   |ok w c=>exfalso;apply H;unfold RG;rw[e]|bad=>exfalso;apply H;unfold RG;rw[e]
  ·rw[aj a]at H;exact absurd rfl H
 ·rename_i h
  exfalso
  apply H
  split
  ·rename_i k b P
   exact(h k b P rfl).elim
  ·rfl
def NN (a:A[n]? =some (.tab q Pt))(c:gR t.idx ρ=some ws)(H:t.m (ws.map some) A=.exc x A1)(h:wm x=some i):kL n q Pt t.idx (RG t 0) ρ A=.ok (.ref (A1.length+11)) (A1++GX i):=by unfold kL;rw[a];dsimp only;rw[ai ⟨rfl,rfl⟩,c];exact Lf H h
def Ra (A:Hx)(i:Nat):(A++GX i)[A.length+11]? =some (.lst [.int i]):=by
 rw[au (by lia),show A.length+11-A.length=11 by lia]
 rfl
def Ec:wm "NoTable"=some 0:=by decide +kernel
def Hl:wm "NotSteady"=some 1:=by decide +kernel
def EL:wm "NoMix"=some 4:=by decide +kernel
def Pc:wm "NoWeights"=some 15:=by decide +kernel
end
def g8 (m:Nat):bN:=jV m λi j=>if i=j then 0 else 1
def rg (n:Nat):bN:=jV n λi j=>((min ((i+n-j)%n) ((j+n-i)%n):Nat):Int)
def bl (m s:Nat):bN:=jV (m * s) λi j=>if i=j then 0 else if i/s=j/s then 1 else 2
def un (n:Nat):bN:=jV (2 ^ n) λi j=>(((List.range n).map λp=>((i ^^^ j) >>> p)%2).sum:Nat)
def ow (n:Nat):bN:=jV (2 ^ n) λi j=>((i ^^^ j:Nat):Int)
def bs (w:Int)(t:bN):bN:=jV (2 * t.length) λi j=>if i/t.length=j/t.length then at2 t (i%t.length) (j%t.length) else qf t+w * at2 t (i%t.length) (j%t.length)
def Qi:List (bN):=[g8 2,g8 3,rg 4,g8 4,ow 2]
def Bd:List (bN):=(List.range 8).map (λn=>g8 (n+1))++(List.range 5).map (λn=>rg (n+4))++[bl 2 2,bl 2 3,bl 3 2,bl 2 4,bl 4 2,un 2,un 3,ow 2,ow 3,jV 6 λi j=>if i=j then 0 else if i+j=5 then 2 else 1]++Qi.map (bs 1)++Qi.map (bs 0)
def J9 (t:bN):Bool:=Vn t&&(Th t&&decide ((Rw t (qf t).toNat).length<64))
noncomputable def dq (n:Nat):Nat->List α->List α
 |0,l=>l|k+1,l=>(dq n k l).drop n
def wJ {k:Nat}{l:List α}{f:α->Bool}(h:((dq n k l).take n).all f=true)(H:(dq n (k+1) l).all f=true):(dq n k l).all f=true:=by rw[<- take_append_drop n (dq n k l),all_append,h];exact H
def mD:((dq 7 0 Bd).take 7).all J9=true:=by decide +kernel
def mE:((dq 7 1 Bd).take 7).all J9=true:=by decide +kernel
def mF:((dq 7 2 Bd).take 7).all J9=true:=by decide +kernel
def mG:((dq 7 3 Bd).take 7).all J9=true:=by decide +kernel
def mH:((dq 7 4 Bd).take 7).all J9=true:=by decide +kernel
def mI:Bd.all J9=true:=wJ (n:=7) (k:=0) mD (wJ mE (wJ mF (wJ mG (wJ mH rfl))))
def MZ (h:t∈Bd):qi t/\jI t/\qf t=((qf t).toNat:Int)/\(Rw t (qf t).toNat).length<64:=by
 have H:=cw.mp mI t h;unfold J9 at H;rw[ak,ak,ao]at H;have a:=NF H.1
 have:=km a
 exact⟨a,Dc H.2.1,by lia,H.2.2⟩
def VL (r:R W)(t:bN):Bool:=match r with|.ok w _=>w.nr&&w.beq (zp t)|_=>false
def Jy {f:Fn}{u:List W}(H:qR u=true)(h:VL (f u []) t=true)(A:Hx):iso f u A=.ok (zp t) A:=by
 unfold VL at h
 split at h
 ·rename_i w B e
  rw[ak]at h
  have:=W.eq_of h.2
  subst this;exact gI H h.1 e
 ·cases h
def Zn (f:Fn)(u:List W):Bool:=qR u&&Bd.any λb=>VL (f u []) b
def Vb {f:Fn}{u:List W}(h:Zn f u=true):∃b∈Bd,∀A,iso f u A=.ok (zp b) A:=by unfold Zn at h;rw[ak]at h;obtain⟨b,H,e⟩:=List.any_eq_true.mp h.2;exact⟨b,H,Jy h.1 e⟩
def mK:((List.range 8).all λ(r:Nat)=>Zn Ux [.int (1+(r:Int))])=true:=by decide +kernel
def mL:((List.range 6).all λ(r:Nat)=>Zn P5 [.int (3+(r:Int))])=true:=by decide +kernel
noncomputable abbrev bp:List (Int×Int):=[(2,2),(2,3),(3,2),(2,4),(4,2),(1,5),(5,1)]
def mM:(bp.all λq=>Zn Ph [.int q.1,.int q.2])=true:=by decide +kernel
def mO:((List.range 2).all λ(r:Nat)=>Zn Pp [.int (2+(r:Int))])=true:=by decide +kernel
def mP:((List.range 2).all λ(r:Nat)=>Zn R5 [.int (2+(r:Int))])=true:=by decide +kernel
def mR:Zn Px [.int 4]=true:=by decide +kernel
abbrev a2:bN:=g8 2
def mS:(Qi.all λs=>Zn Pf [zp a2,zp s])=true:=by decide +kernel
def mT:(Qi.all λs=>Zn Pj [zp a2,zp s])=true:=by decide +kernel
section
variable {o:O}
def Io (A:Hx):Yp [.int 2] A=.ok (zp a2) A:=Jy rfl (by decide +kernel) A
def mU (A:Hx):Yp [.int 3] A=.ok (zp (g8 3)) A:=Jy rfl (by decide +kernel) A
def mV (A:Hx):Yp [.int 4] A=.ok (zp (g8 4)) A:=Jy rfl (by decide +kernel) A
def mW (A:Hx):P7 [.int 4] A=.ok (zp (rg 4)) A:=Jy rfl (by decide +kernel) A
def mX (A:Hx):R8 [.int 2] A=.ok (zp (ow 2)) A:=Jy rfl (by decide +kernel) A
abbrev c1 {f:Fn}{m:Ev}{w v:W}(H:m ρ A=.ok w A)(h:f [w] A=.ok v A):zO f (zj m zw) ρ A=.ok v A:=(zM (zr H zF)).trans h
def mY (s:qQ n A):∃t∈Qi,∃o,Uw [.ref n] A=.ok (zp t) (A.set n o)/\qQ n (A.set n o):=by
 obtain⟨x,b,H,e,f⟩:=s;have g:=jS H;obtain⟨r,a,E,c,l,S⟩:=QA (n:=0) (A:=[.lst [.int x,.bl b]]) ⟨x,b,rfl,e,f⟩ (m:=5) (by decide) (by decide)
 obtain⟨i,rfl⟩:=aS c;have h:i<Qi.length:=by show i<5;lia
 obtain⟨y,z,d,Q,q⟩:=S;refine⟨Qi[i],aJ h,.lst [.int y,.bl z],K3 (A1:=[a,.lst (Qi.map zp)]) H rfl (qM ?_) d (Ze _),y,z,ar g,Q,q⟩;dsimp only[Uv,mq];refine(zA (ρ1:=[rO 0,iV i]) (A1:=[a]) (qj ((zM (zr (zi rfl) (zr zN zF))).trans E))).trans ?_;exact qh (qH ((zE (jB (ws:=Qi.map zp) (A1:=[a]) (zr (c1 zN (Io _)) (zr (c1 zN (mU _)) (zr (c1 zN (mW _)) (zr (c1 zN (mV _)) (zr (c1 zN (mX _)) zF)))))) (zi rfl)).trans (wH (n:=1) (s:=i) rfl (by rw[ax,ae h];rfl))))
def Got (c:En)(r:R Fl):Prop:=∃b∈Bd,∃a o l,r=.ok (.nx a) (o::l)/\qQ 0 (o::l)/\a[0]? =some (rO 0)/\a[2]? =some (some (zp b))
def VF {R:Fn}{c g:Int}{m:Nat}(H:((List.range m).all λ(r:Nat)=>Zn R [.int (c+(r:Int))])=true)(h:g=(m:Int))(p:1<=m)(M:m<=9)(s:qQ 0 [o])(j:ρ[0]? =some (rO 0))(f:ρ.length=5):Got ρ (zG (qA 2 (zO (iso R) (zj (zm qJ (zT (.int c)) (zO j4 (zj zI (zj (zT (.int g)) zw)))) zw))) zS ρ [o]):=by
 subst h;obtain⟨v,a,E,n,l,S⟩:=QA s (m:=(m:Int)) (by lia) (by lia)
 obtain⟨i,rfl⟩:=aS n;obtain⟨b,d,e⟩:=Vb (cw.mp H i (cj.mpr (by lia)))
 refine⟨b,d,_,a,[],(zA (qj ((zM (zr ((zE zN ((zM (zr (zi j) (zr zN zF))).trans E)).trans rfl) zF)).trans (e _)))).trans qx,S,?_,?_⟩
 ·rw[av (by decide)];exact j
 ·rw[ar (by lia)]
def L9 {R:Fn}(h:(Qi.all λt=>Zn R [zp a2,zp t])=true)(s:qQ 0 [o])(d:ρ[0]? =some (rO 0))(c:ρ.length=5):Got ρ (zG (qA 2 (zO (iso R) (zj (zO Yp (zj QR zw)) (zj (zO Uw (zj zI zw)) zw)))) zS ρ [o]):=by
 obtain⟨t,f,a,E,S⟩:=mY s;obtain⟨b,H,e⟩:=Vb (cw.mp h t f);refine⟨b,H,_,a,[],(zA (qj ((zM (zr (c1 zN (Io _)) (zr ((zM (zr (zi d) zF)).trans E) zF))).trans (e _)))).trans qx,S,?_,?_⟩
 ·rw[av (by decide)];exact d
 ·rw[ar (by lia)]
def JH {c:Ev}{a b:Ex}{p:Bool}(h:c ρ B=.ok (.bl p) B)(d:p=true->Got ρ (a ρ B))(H:p=false->Got ρ (b ρ B)):Got ρ (jk c a b ρ B):=by
 cases p with|true=>rw[yC h];exact d rfl|false=>rw[jT h];exact H rfl
def YS {a:Ex}(h:Got ρ (a ρ B)):Got ρ (zG a zS ρ B):=by obtain⟨b,H,c,o,l,e,r⟩:=h;exact⟨b,H,c,o,l,(zA e).trans qx,r⟩
def CL (s:qQ n A):∃b∈Bd,∃p q o,p.Perm (List.range (qf b-1).toNat)/\q.Perm (List.range b.length)/\Jp [.ref n] A=.ok (zp (w9 b p q)) (A.set n o)/\qQ n (A.set n o):=by
 obtain⟨x,j,g,E,H⟩:=s;have hm:=jS g;obtain⟨r,a,N,X,U,s1⟩:=QA (n:=0) (A:=[.lst [.int x,.bl j]]) ⟨x,j,rfl,E,H⟩ (m:=12) (by decide) (by decide)
 have eq:∀(c:Int){B:Hx},zm jQ zD (zT (.int c)) [rO 0,iV r,none,none,none] B=.ok (.bl (decide (r=c))) B:=λc {B}=>(zE (zi rfl) zN).trans (wU _ _ _);have lt:∀(c:Int){B:Hx},zm VG zD (zT (.int c)) [rO 0,iV r,none,none,none] B=.ok (.bl (decide (r<c))) B:=λc {B}=>(zE (zi rfl) zN).trans rfl;have S:qQ 0 [a]:=s1;have key:∃m1,Uk.1=zG (qA 1 (zO j4 (zj zI (zj (zT (.int 12)) zw)))) (zG m1 (zG (gm (zO W9 (zj zI (zj qg zw)))) zS))/\Got [rO 0,iV r,none,none,none] (m1 [rO 0,iV r,none,none,none] [a]):=by
  refine⟨_,rfl,?_⟩;refine JH (eq 0) (λ_=>VF mK rfl (by decide) (by decide) S rfl rfl) λh0=>YS (JH (lt 3) (λ_=>VF mL rfl (by decide) (by decide) S rfl rfl) λh1=>YS (JH (eq 3) (λ_=>?_) λh2=>YS (JH (lt 6) (λ_=>VF mO rfl (by decide) (by decide) S rfl rfl) λh3=>YS (JH (eq 6) (λ_=>VF mP rfl (by decide) (by decide) S rfl rfl) λZ=>YS (JH (eq 7) (λ_=>?_) λY=>YS (JH (lt 10) (λ_=>L9 mS S rfl rfl) λ_=>L9 mT S rfl rfl))))))
  ·obtain⟨v,D,M,v0,T,s2⟩:=QA (n:=0) (A:=[a,.lst (bp.map λq=>.tup [.int q.1,.int q.2])]) (by obtain⟨y,z,d,Q⟩:=s1;exact⟨y,z,d,Q⟩) (m:=7) (by decide) (by decide)
   obtain⟨i,rfl⟩:=aS v0;have f:i<bp.length:=by show i<7;lia
   obtain⟨b,h,e⟩:=Vb (cw.mp mM bp[i] (aJ f));refine⟨b,h,_,D,[.lst (bp.map λq=>.tup [.int q.1,.int q.2])],(zA (Xq (w:=.tup [.int (bp[i]).1,.int (bp[i]).2]) ((zE (jB (ws:=bp.map λq=>.tup [.int q.1,.int q.2]) (A1:=[a]) rfl) ((zM (zr (zi rfl) (zr zN zF))).trans M)).trans (wH (n:=1) (s:=i) rfl (by rw[ax,ae f];rfl))) rfl)).trans ((zA (qj ((zM (zr (zi rfl) (zr (zi rfl) zF))).trans (e _)))).trans qx),s2,rfl,rfl⟩
  ·obtain⟨b,h,e⟩:=Vb mR
   exact⟨b,h,_,a,[],(zA (qj ((zM (zr zN zF)).trans (e _)))).trans qx,S,rfl,rfl⟩
 obtain⟨m1,em,b,h,t,o',l,L,s3,h0,h2⟩:=key;have P:=MZ h;obtain⟨p,q,C,K,⟨y,z,d,Q,u⟩,J,I⟩:=BF P.1 s3;refine⟨b,h,p,q,.lst [.int y,.bl z],J,I,K3 (A1:=(o'::l).set 0 C) g rfl (qM ?_) d (Ze _),y,z,ar hm,Q,u⟩;rw[em];exact(zA (ρ1:=[rO 0,iV r,none,none,none]) (A1:=[a]) (qj ((zM (zr (zi rfl) (zr zN zF))).trans N))).trans ((zA L).trans (qh (qH ((zM (zr (zi h0) (zr (zi h2) zF))).trans K))))
variable {S:List (bN)}{z v:bP}{K k j x:Nat}{C:Hx}{T:W}
def Tf {m M:Ev}{b:Hx}{i j:Int}(h:m ρ A=.ok (.int i) A1)(c:M ρ A1=.ok (.int j) b)(a:jG i=true)(H:jG j=true):Jg m M ρ A=.ok (jE i (j-i).toNat) b:=by
 unfold Jg;rw[h,zJ,c,zJ];dsimp only;rw[a,H]
 rfl
def Jw {v:Int}(h:-1000<v)(H:v<1000):jG v=true:=by unfold jG;rw[ak,ao,ao];lia
def Wf.s (w:Wf K S):∀i,i<K->(S.getD i []).length=K:=λi h=>w.r _ (by rw[aa,ae (by rw[w.l];exact h)];exact aJ _)
def SX (w:Wf K S)(e:Zv S K n K B){p mk o M:Ev}(r:p ρ B=.ok (.ref n) B)(H:mk ρ B=.ok (.int (k:Int)) B)(b:o ρ B=.ok (.int (i:Int)) B)(a:M ρ B=.ok (.int (j:Int)) B)(g:k<K)(q:i<K)(L:j<K):
  zm zH (zm zH (zm zH p mk) o) M ρ B=.ok (.int (pS S k i j)) B:=by
 have d:S.getD k []∈S:=by rw[aa,ae (by rw[w.l];exact g)];exact aJ _
 obtain⟨y,u,A,t⟩:=e;obtain⟨_,I,v,C,f⟩:=t k g;have ix:∀{l:bT}{x:Nat},x<l.length->(l.map W.ref)[x]? =some (.ref (l.getD x 0)):=λ {l x} h=>by rw[ax,aa,ae h];rfl
 refine(zE ((zE ((zE r H).trans (wH u (ix (by lia)))) b).trans (wH v (ix (by lia)))) a).trans (wH (f i q).2 (int_at ?_))
 rw[w.c _ d _ (ki (by rw[w.s k g];exact q))]
 exact L
abbrev fa (T:W)(v:bP)(n:Nat)(a X x:Option W):En:=[some T,some (zo v),rO n,a,X,x]
abbrev LB:Ex:=zG (qA 5 (mQ gU (qD 1 [1,2,3,4] (jU (mQ qu (qa zD))) (zQ 0) jl (qw (zm qE (zm zH (zm zH (zm zH qg zI) qb) ql) (zm zH zD zI)))))) (zG (jk (zm ju (zm qE (zm zH zD qb) (zm zH zD ql)) jX) kF zS) zS)
def SO (H:v.length=K){r:Nat}(h:ρ[r]? =some (some (zo v))):mQ qu (qa (zU r)) ρ B=.ok (.int K) B:=by rw[Jb (ws:=v.map W.int) h,ag,H]
def mZ (w:Wf K S)(p:Zv S K n K B)(a:v.length=K)(r:K<=8)(H:Bg v)(o:i<K)(f:j<K){x5:Option W}:∃y5,LB (fa T v n (iO i) (iO j) x5) B=.ok (if yz S v i j then .nx (fa T v n (iO i) (iO j) y5) else .rt (.bl false)) B:=by
 have c:=gB (cap:=[1,2,3,4]) (mi:=jU (mQ qu (qa zD))) (me:=zm qE (zm zH (zm zH (zm zH qg zI) qb) ql) (zm zH zD zI)) (ρ:=fa T v n (iO i) (iO j) x5) (A:=B) (N:=K) (item:=λk=>.int (0+(k:Int))) (g:=λk=>.int (pS S k i j * v.getD k 0))
  (yS (SO a rfl) (QY (by lia))) (by rw[aA];rfl) (by unfold zX;lia) (λk h=>by rw[aA];exact yh h) (by rw[aA];exact yf (by lia))
  (λk h=>by
   have P:=w.b (S.getD k []) (by rw[aa,ae (by rw[w.l];exact h)];exact aJ _) i j
   rw[Int.zero_add];exact(zE (SX w p (zi rfl) (zi rfl) (zi rfl) (zi rfl) h o f) ((zE (zi rfl) (zi rfl)).trans wj)).trans (yN (by show -(2 ^ 64)<at2 _ i j;lia) (by show at2 _ i j<2 ^ 64;lia)))
 have t:((List.range K).map λk=>W.int (pS S k i j * v.getD k 0))=((List.range K).map λk=>pS S k i j * v.getD k 0).map W.int:=by rw[aW];rfl
 rw[t]at c;have E:=(j0 c).trans (Xc _);generalize d:((List.range K).map λk=>pS S k i j * v.getD k 0).sum=s at E;have e:zm ju (zm qE (zm zH zD qb) (zm zH zD ql)) jX (fa T v n (iO i) (iO j) (iV s)) B=.ok (.bl (!decide (v.getD i 0 * v.getD j 0=s))) B:=
  (zE ((zE ((zE (zi rfl) (zi rfl)).trans wj) ((zE (zi rfl) (zi rfl)).trans wj)).trans (Mx (X6 H i) (X6 H j))) (zi rfl)).trans (WZ _ _ _)
 have q:yz S v i j=decide (v.getD i 0 * v.getD j 0=s):=by
  unfold yz;rw[a,List.drop_of_length_le (by rw[w.l];exact aq _),d]
  rfl
 refine⟨iV s,(zA ((qj E).trans rfl)).trans ?_⟩;rw[q];cases hd:decide (v.getD i 0 * v.getD j 0=s) with|true=>rw[hd]at e;exact(zA ((jT e).trans qx)).trans qx|false=>rw[hd]at e;exact qh ((yC e).trans (qh (qH zN)))
abbrev LI:Ex:=zG (jM (jU (mQ qu (qa zD))) (zQ 4) LB) zS
def m3 (w:Wf K S)(g:Zv S K n K B)(l:v.length=K)(f:K<=8)(c:Bg v)(d:i<K){x4 x5:Option W}:
  (∃y4 y5,(List.range K).all (yz S v i)=true/\LI (fa T v n (iO i) x4 x5) B=.ok (.nx (fa T v n (iO i) y4 y5)) B)∨((List.range K).all (yz S v i)=false/\LI (fa T v n (iO i) x4 x5) B=.ok (.rt (.bl false)) B):=by
 have a:=yS (m:=mQ qu (qa zD)) (ρ:=fa T v n (iO i) x4 x5) (A:=B) (A1:=B) (k:=(K:Int)) (SO l rfl) (ZY (by lia))
 rw[aA]at a;rcases GF (j:=jE 0 K) (st:=turn (zQ 4) LB) (N:=K) (I:=λk p C=>C=B/\(List.range k).all (yz S v i)=true/\∃y4 y5,p=fa T v n (iO i) y4 y5) (Q:=λr C=>r=.bl false/\C=B/\(List.range K).all (yz S v i)=false)
  (λk p C H ⟨q,h,y4,y5,e⟩=>by
   subst e q;refine⟨_,yh H,?_⟩;obtain⟨Z,o⟩:=mZ (T:=T) (x5:=y5) (j:=k) w g l f c d H;have E:=(jY (tw:=zQ 4) (w:=.int (0+(k:Int))) (ρ:=fa T v n (iO i) y4 y5) (ρ1:=fa T v n (iO i) (iO k) y5) (A:=C) (m1:=LB) (by rw[Int.zero_add];rfl)).trans o
   cases hf:yz S v i k with|true=>rw[hf]at E;exact .inl ⟨_,C,E,rfl,by rw[all_succ,h,hf];rfl,_,_,rfl⟩|false=>rw[hf]at E;exact .inr ⟨_,C,E,rfl,rfl,all_false H hf⟩)
  (λp B _=>yf (by lia)) K 0 (fa T v n (iO i) x4 x5) B (by lia) ⟨rfl,rfl,_,_,rfl⟩ with ⟨b,C,e,rfl,h,y4,y5,rfl⟩|⟨r,C,e,rfl,rfl,h⟩
 ·exact .inl ⟨y4,y5,h,(zA ((jC a).trans e)).trans qx⟩
 ·exact .inr ⟨h,qh ((jC a).trans e)⟩
abbrev LR:Ex:=zG (jM (jU (mQ qu (qa zD))) (zQ 3) LI) (zG (gm jl) zS)
def m4 (w:Wf K S)(g:Zv S K n K B)(l:v.length=K)(f:K<=8)(d:Bg v):LR (fa T v n none none none) B=.ok (.rt (.bl (yD S v))) B:=by
 have E:=yS (m:=mQ qu (qa zD)) (ρ:=fa T v n none none none) (A:=B) (A1:=B) (k:=(K:Int)) (SO l rfl) (ZY (by lia))
 rw[aA]at E;rcases GF (j:=jE 0 K) (st:=turn (zQ 3) LI) (N:=K) (I:=λk q C=>C=B/\(List.range k).all (λi=>(List.range K).all (yz S v i))=true/\∃y p Y,q=fa T v n y p Y) (Q:=λr C=>r=.bl false/\C=B/\yD S v=false)
  (λk q C a ⟨u,H,y,p,Y,e⟩=>by
   subst e u;refine⟨_,yh a,?_⟩;have t:=jY (tw:=zQ 3) (w:=.int (0+(k:Int))) (ρ:=fa T v n y p Y) (ρ1:=fa T v n (iO k) p Y) (A:=C) (m1:=LI) (by rw[Int.zero_add];rfl)
   rcases m3 (T:=T) (x4:=p) (x5:=Y) (i:=k) w g l f d a with ⟨o,Z,h,c⟩|⟨h,c⟩
   ·exact .inl ⟨_,C,t.trans c,rfl,by rw[all_succ,H];exact h,_,_,_,rfl⟩
   ·refine .inr ⟨_,C,t.trans c,rfl,rfl,?_⟩
    unfold yD;rw[l];exact all_false a h)
  (λq B _=>yf (by lia)) K 0 (fa T v n none none none) B (by lia) ⟨rfl,rfl,_,_,_,rfl⟩ with ⟨b,C,e,rfl,H,y,p,Y,rfl⟩|⟨r,C,e,rfl,rfl,H⟩
 ·have:yD S v=true:=by unfold yD;rw[l];exact H
  rw[this];exact(zA ((jC E).trans e)).trans (qh (qH zN))
 ·rw[H]
  exact qh ((jC E).trans e)
noncomputable def vI:W->Int
 |.int i=>i|_=>0
theorem Rc:∀{a:List W},a.all yH=true->(a.map vI).map W.int=a
 |[],_=>rfl|x::a,h=>by
  rw[bL,ak]at h;rw[aR,aR,Rc h.2];cases x with|int i=>rfl|_=>cases h.1
def wz (S:List (bN))(K:Nat):W->Bool
 |.tup a=>decide (a.length=K)&&(a.all yH&&(decide ((a.map vI).getD 0 0=1)&&yD S (a.map vI)))|_=>false
def Cw (x:W):Prop:=x.nr=true/\∃ty,∀A,jq x A=some ty
def wA (A:Hx)(w:W):Prop:=(∃a,w=.tup a/\a.length<=100/\(∀x∈a,Cw x)/\Bg (a.map vI))∨∃ty,jq w A=some ty/\ty≠.tup
def By {x:W}(h:Cw x)(A:Hx):Gv [x] A=.ok (.bl (yH x)) A:=by obtain⟨a,ty,H⟩:=h;exact gI (A1:=[]) (by show(x.nr&&true)=true;rw[a];rfl) rfl (N8 (H []))
def LM (w:Wf K S)(J:qi t)(o:qf t=(K:Int))(sh:∀a b,a<t.length->b<t.length->je t K a b=S.getD (at2 t a b).toNat []){a:W}(h:wA A a):∃B,Zc [zp t,a] A=.ok (.bl (wz S K a)) B/\Ext A B:=by
 have Q:K<=8:=by have:=Xz J;have:=J.n8;lia
 have U:1<=K:=by have:=km J;lia
 obtain⟨B,u,X,n⟩:=Ld J o sh A;obtain⟨T,N,P,_⟩:=id n;have L:mQ qu (qa qg) [some (zp t),some a,rO A.length,none,none,none] B=.ok (.int (K:Int)) B:=(YM (i:=2) rfl N).trans (by rw[ag,P])
 refine⟨B,?_,X⟩;unfold Zc RZ;refine qM ?_;dsimp only[VW,mq];refine(zA ((qj ((zM (zr (zi rfl) zF)).trans u)).trans rfl)).trans ?_;rcases h with ⟨C,rfl,y,H,j⟩|⟨ty,H,hn⟩
 ·have E:ZT (ym (Zo .tup zD)) (zm ju (mQ qu (qa zD)) (mQ qu (qa qg))) [some (zp t),some (.tup C),rO A.length,none,none,none] B=.ok (.bl (!decide (C.length=K))) B:=
   (Va (yM (k:=true) ((Je (ty:=.tup) (zi rfl) rfl).trans rfl))).trans ((zE (Jb rfl) L).trans ((WZ _ _ _).trans (by congr 3;exact decide_eq_decide.mpr ⟨λz=>by lia,λz=>by lia⟩)))
  rw[show wz S K (.tup C)=(decide (C.length=K)&&(C.all yH&&(decide ((C.map vI).getD 0 0=1)&&yD S (C.map vI)))) from rfl]
  by_cases D:C.length=K
  ·rw[ay D]at E ⊢
   refine(zA ((jT E).trans qx)).trans ?_;have q:=YI (cap:=[]) (A:=B) (ρ:=[some (zp t),some (.tup C),rO A.length,none,none,none]) (ws:=C) (m:=zD) (me:=zO Gv (zj zI zw)) (g:=λw=>.bl (yH w)) (zi rfl) (by unfold zX;lia) (λx l=>(zM (zr (zi rfl) zF)).trans (By (H x l) B))
   have e:ym (mQ Kh (qD 1 [] (q9 zD) (zQ 0) jl (qw (zO Gv (zj zI zw))))) [some (zp t),some (.tup C),rO A.length,none,none,none] B=.ok (.bl (!C.all yH)) B:=by
    refine yM ((j0 q).trans ?_);unfold Kh Zk;rw[GS];show R.ok (W.bl ((C.map yH).all id)) B=_;rw[all_map]
    rfl
   cases I:C.all yH with
   |false=>
    rw[I]at e;exact qh ((yC (Lb e)).trans (qh (qH zN)))
   |true=>
    rw[I]at e;have r:W.tup C=zo (C.map vI):=by unfold zo;rw[Rc I]
    have f:(C.map vI).length=K:=by rw[ag];exact D
    rw[r]at e ⊢;generalize C.map vI=v at f j e;have d:=(Va e).trans ((zE ((zE (zi (i:=1) (ρ:=fa (zp t) v A.length none none none) (A:=B) rfl) zN).trans (wj (b:=0) (by lia))) (zN (w:=.int 1))).trans (WZ _ _ _))
    by_cases M:v.getD 0 0=1
    ·rw[ay M]at d ⊢
     exact(zA ((jT d).trans qx)).trans (m4 w n f Q j)
    ·rw[aG M]at d ⊢
     exact qh ((yC d).trans (qh (qH zN)))
  ·rw[aG D]at E ⊢
   exact qh ((yC E).trans (qh (qH zN)))
 ·have p:wz S K a=false:=by
   cases a with|tup C=>exfalso;unfold jq at H;cases H;exact hn rfl|_=>rfl
  have E:=Lb (mb:=zm ju (mQ qu (qa zD)) (mQ qu (qa qg))) (yM (k:=false) ((Je (c:=.tup) (zi (i:=1) (ρ:=[some (zp t),some a,rO A.length,none,none,none]) (A:=B) rfl) (X.ky _ _ H)).trans (by cases ty<;>first|rfl|exact absurd rfl hn)))
  rw[p];exact qh ((yC E).trans (qh (qH zN)))
end
section
variable {S:List (bN)}{z:bP}{K κ k j x p2:Nat}{C D:Hx}{row:bP}{T:W}
structure Kb (S:List (bN))(z:bP)(K p2:Nat)(D B:Hx):Prop where
 nu:Zv S K 0 K D
 z_:D[p2]? =some (.lst (z.map W.int))
 x:Ext D B
def Kb.ext (h:Kb S z K p2 D B)(x:Ext B C):Kb S z K p2 D C:=⟨h.nu,h.z_,h.x.trans x⟩
def Dr {y:W}(h:A[n]? =some (.lst ws))(H:ws.length<50000):kg (.ref n) y A=.ok .non (A.set n (.lst (ws++[y]))):=by unfold kg;dsimp only;rw[h];dsimp only;rw[ai (by unfold zX;lia)]
def wa (S:List (bN))(K a i:Nat):bP:=(List.range (K-(a + 1))).map λd=>pS S (a + 1+d) i a
def W8 (S:List (bN))(a i:Nat)(r:bP):Int:=((List.range (a + 1)).map λk=>pS S k i a * r.getD k 0).sum
def QO (S:List (bN))(K a:Nat)(r:bP)(i:Nat):Bool:=!decide (kz (wa S K a i++[0])=0) || decide (r.getD i 0 * r.getD a 0=W8 S a i r)
abbrev IB:Ex:=zG (qA 9 (jP (qD 1 [1,4,8] (Jg (zm qJ ql jj) (mQ qu (qa qg))) (zQ 0) jl (qw (zm zH (zm zH (zm zH zD zI) qb) qg))))) (zG (jk (zm jQ (mQ gh (qa (zm qJ Ku (qO (zj qB zw))))) qB) (zG (qA 10 (mQ gU (qD 1 [1,4,6,8] (jU (zm qJ ql jj)) (zQ 0) jl (qw (zm qE (zm zH (zm zH (zm zH zD zI) ql) qg) (zm zH qb zI)))))) (zG (qA 7 (kP wC (zm jQ (zm qE (zm zH kU Jk) (zm zH kU ql)) LJ))) zS)) zS) zS)
abbrev fr (p:Nat)(T:W)(f e d c b a X x:Option W):En:=[some T,rO 0,rO p,f,e,d,c,b,a,X,x]
abbrev fi (p:Nat)(T:W)(e:Option W)(a:Nat)(d:Option W)(r:bP)(c b X x:Option W):En:=fr p T e (iO a) d (some (zo r)) c b X x
def m5 (w:Wf K S)(p:z.length=K)(f:Kb S z K p2 D B)(hK:K<=8)(H:κ < K)(r:row.length=κ + 1)(P:∀v∈row,-100<v/\v<100)(hi:i<=κ){x3 x5 x9 x10:Option W}{g:Bool}:
  ∃C Y y,IB (fi p2 T x3 κ x5 row (bO g) (iO i) x9 x10) B=.ok (.nx (fi p2 T x3 κ x5 row (bO (g&&QO S K κ row i)) (iO i) Y y)) C/\Ext B C:=by
 have o:B[p2]? =some (.lst (z.map W.int)):=f.x.at f.z_;have u:∀k,-100<row.getD k 0/\row.getD k 0<100:=λk=>by
  by_cases h:k<row.length
  ·rw[aa,ae h];exact P _ (aJ _)
  ·rw[aa,aD (by lia)];show -100<(0:Int)/\(0:Int)<100;lia
 have L:=gB (cap:=[1,4,8]) (mi:=Jg (zm qJ ql jj) (mQ qu (qa qg))) (me:=zm zH (zm zH (zm zH zD zI) qb) qg) (ρ:=fi p2 T x3 κ x5 row (bO g) (iO i) x9 x10) (A:=B) (N:=K-(κ + 1)) (j:=jE ((κ:Int)+1) (((z.map W.int).length:Int)-((κ:Int)+1)).toNat)
  (item:=λd=>.int ((κ:Int)+1+(d:Int))) (g:=λd=>.int (pS S (κ + 1+d) i κ))
  (Tf ((zE (zi rfl) zN).trans rfl) (YM rfl o) (Jw (by lia) (by lia)) (Jw (by rw[ag];lia) (by rw[ag];lia)))
  (by show(((z.map W.int).length:Int)-((κ:Int)+1)).toNat=_;rw[ag,p];lia) (by unfold zX;lia) (λd hd=>yh (by rw[ag,p];lia)) (yf (by rw[ag,p];lia))
  (λd hd=>by
   rw[show((κ:Int)+1+(d:Int))=((κ + 1+d:Nat):Int) by lia]
   exact SX w (f.nu.ext f.x) (zi rfl) (zi rfl) (zi rfl) (zi rfl) (by lia) (by lia) H)
 have U:((List.range (K-(κ + 1))).map λd=>W.int (pS S (κ + 1+d) i κ))=(wa S K κ i).map W.int:=by unfold wa;rw[aW];rfl
 rw[U]at L;have M:(wa S K κ i).length=K-(κ + 1):=by unfold wa;simp
 have x1:Ext B (B++[O.lst ((wa S K κ i).map W.int)]):=.one;generalize e:B++[O.lst ((wa S K κ i).map W.int)]=a at x1;have J:qA 9 (jP (qD 1 [1,4,8] (Jg (zm qJ ql jj) (mQ qu (qa qg))) (zQ 0) jl (qw (zm zH (zm zH (zm zH zD zI) qb) qg)))) (fi p2 T x3 κ x5 row (bO g) (iO i) x9 x10) B=.ok (.nx (fi p2 T x3 κ x5 row (bO g) (iO i) (rO B.length) x10)) a:=by
  refine((qj (kf L)).trans ?_);rw[e]
  rfl
 have Q:a[B.length]? =some (.lst ((wa S K κ i).map W.int)):=by rw[<- e];exact qN
 have E:zm jQ (mQ gh (qa (zm qJ Ku (qO (zj qB zw))))) qB (fi p2 T x3 κ x5 row (bO g) (iO i) (rO B.length) x10) a=.ok (.bl (decide (kz (wa S K κ i++[0])=0))) (a++[.lst [.int 0]]++[.lst ((wa S K κ i++[0]).map W.int)]):=by
  have a1:=(zE (zi (i:=9) (ρ:=fi p2 T x3 κ x5 row (bO g) (iO i) (rO B.length) x10) (A:=a) rfl) (jB (ws:=[.int 0]) (A1:=a) (zr zN zF))).trans (K1 (jx Q) qN (by rw[ag,M];unfold zX;simp;lia))
  have a2:(wa S K κ i).map W.int++[.int 0]=(wa S K κ i++[0]).map W.int:=by rw[aN];rfl
  rw[a2]at a1;exact(zE ((j0 (yL a1 (by unfold zW;dsimp only;rw[qN]))).trans (Tj (by simp))) zN).trans (wU _ _ _)
 generalize q:a++[O.lst [.int 0]]++[O.lst ((wa S K κ i++[0]).map W.int)]=c at E;have x2:Ext B c:=by rw[<- q];exact x1.app.app
 have k2:=f.ext x2
 by_cases n:kz (wa S K κ i++[0])=0
 ·rw[ay n]at E
  have I:=gB (cap:=[1,4,6,8]) (mi:=jU (zm qJ ql jj)) (me:=zm qE (zm zH (zm zH (zm zH zD zI) ql) qg) (zm zH qb zI)) (ρ:=fi p2 T x3 κ x5 row (bO g) (iO i) (rO B.length) x10) (A:=c) (N:=κ + 1) (j:=jE 0 ((κ:Int)+1).toNat)
   (item:=λk=>.int (0+(k:Int))) (g:=λk=>.int (pS S k i κ * row.getD k 0)) (yS ((zE (zi rfl) zN).trans rfl) (Jw (by lia) (by lia))) (by show((κ:Int)+1).toNat=_;lia) (by unfold zX;lia) (λk t=>yh (by lia)) (yf (by lia))
   (λk t=>by
    have pb:0<=pS S k i κ/\pS S k i κ < 100:=w.b (S.getD k []) (by rw[aa,ae (by rw[w.l];lia)];exact aJ _) i κ
    rw[Int.zero_add];exact(zE (SX w (k2.nu.ext k2.x) (zi rfl) (zi rfl) (zi rfl) (zi rfl) (by lia) (by lia) H) ((zE (zi rfl) (zi rfl)).trans (wj (by rw[r];exact t)))).trans yN)
  have em:((List.range (κ + 1)).map λk=>W.int (pS S k i κ * row.getD k 0))=((List.range (κ + 1)).map λk=>pS S k i κ * row.getD k 0).map W.int:=by rw[aW];rfl
  rw[em]at I;have Z:=(j0 I).trans (Xc _);have X:kP wC (zm jQ (zm qE (zm zH kU Jk) (zm zH kU ql)) LJ) (fi p2 T x3 κ x5 row (bO g) (iO i) (rO B.length) (iV (W8 S κ i row))) c=.ok (.bl (g&&decide (row.getD i 0 * row.getD κ 0=W8 S κ i row))) c:=
   WD (zi rfl) ((zE ((zE ((zE (zi rfl) (zi rfl)).trans (wj (by rw[r];lia))) ((zE (zi rfl) (zi rfl)).trans (wj (by rw[r];lia)))).trans (yN (by have:=u i;lia) (by have:=u i;lia))) (zi rfl)).trans (wU _ _ _))
  have ce:QO S K κ row i=decide (row.getD i 0 * row.getD κ 0=W8 S κ i row):=by
   unfold QO;rw[ay n]
   rfl
  refine⟨c,rO B.length,iV (W8 S κ i row),(zA J).trans ((zA ((yC E).trans ((zA ((qj Z).trans rfl)).trans ((zA ((qj X).trans rfl)).trans qx)))).trans ?_),x2⟩;rw[ce];exact qx
 ·rw[aG n]at E
  have ce:QO S K κ row i=true:=by
   unfold QO;rw[aG n]
   rfl
  refine⟨c,rO B.length,x10,(zA J).trans ((zA ((jT E).trans qx)).trans ?_),x2⟩;rw[ce,Bool.and_true];exact qx
def gd (S:List (bN))(K a:Nat)(r:bP):Bool:=(List.range (a + 1)).all (QO S K a r)
def D8 {p:Nat->Bool}(n:Nat):(List.range (n+1)).all p=((List.range n).all p&&p n):=by rw[bf,all_append];simp
def m6 (w:Wf K S)(c:z.length=K)(l:Kb S z K p2 D B)(f:K<=8)(H:κ < K)(r:row.length=κ + 1)(d:∀v∈row,-100<v/\v<100){x3 x5 x8 x9 x10:Option W}:
  ∃C y8 Y y,jM (jU (zm qJ ql jj)) (zQ 8) IB (fi p2 T x3 κ x5 row (bO true) x8 x9 x10) B=.ok (.nx (fi p2 T x3 κ x5 row (bO (gd S K κ row)) y8 Y y)) C/\Ext B C:=by
 obtain⟨a,C,e,y8,Y,y,rfl,x⟩:=yK (j:=jE 0 ((κ:Int)+1).toNat) (st:=turn (zQ 8) IB) (N:=κ + 1)
  (I:=λi o C=>∃y8 Y y,o=fi p2 T x3 κ x5 row (bO ((List.range i).all (QO S K κ row))) y8 Y y/\Ext B C)
  (λi o C n ⟨y8,Y,y,h,x⟩=>by
   subst h;obtain⟨D,b,Z,e,X⟩:=m5 (T:=T) (x3:=x3) (x5:=x5) (x9:=Y) (x10:=y) (g:=(List.range i).all (QO S K κ row)) w c (l.ext x) f H r d (i:=i) (by lia)
   refine⟨.int (0+(i:Int)),_,D,yh (by lia),(jY (by rw[Int.zero_add];rfl)).trans e,iO i,b,Z,?_,x.trans X⟩
   rw[D8])
  (λo B _=>yf (by lia)) (κ + 1) 0 (fi p2 T x3 κ x5 row (bO true) x8 x9 x10) B (by lia) ⟨x8,x9,x10,rfl,.refl⟩
 refine⟨C,y8,Y,y,(jC (yS (k:=(κ:Int)+1) ((zE (zi rfl) zN).trans rfl) (Jw (by lia) (by lia)))).trans ?_,x⟩
 rw[show(jE 0 ((κ:Int)+1).toNat).len=κ + 1 by show((κ:Int)+1).toNat=_;lia]
 exact e
noncomputable def yJ (v:Int)(r:bP):bN:=(List.range (2 * v+1).toNat).map λ(d:Nat)=>r++[-v+(d:Int)]
def yR (S:List (bN))(z:bP)(K:Nat):Nat->List (bP)
 |0=>[[1]]|m+1=>((yR S z K m).flatMap (yJ (z.getD (m+1) 0))).filter (gd S K (m+1))
abbrev EB:Ex:=zG (wg (yu JA jX (jP (qD 1 [6] (Jg (zm gX qB (zm zH qg ql)) (zm qJ (zm zH qg ql) jj)) (zQ 0) jl (qw (zm qJ zD (qP (zj zI zw)))))))) zS
abbrev RB:Ex:=zG (qA 7 jl) (zG (jM (jU (zm qJ ql jj)) (zQ 8) IB) (zG (jk wC (zG (wg (yu kg qb kU)) zS) zS) zS))
def De {k:Nat}{u:List W}(h:A[n]? =some (.lst ws))(a:A[k]? =some (.lst u))(H:ws.length+u.length<=zX):JA (.ref n) (.ref k) A=.ok .non (A.set n (.lst (ws++u))):=by unfold JA;dsimp only;rw[h,a];dsimp only;rw[ai H]
def Kq (p:Nat)(B C:Hx):Prop:=B.length<=C.length/\∀q,q<p->C[q]? =B[q]?
def Kq.kb {p:Nat}(h:Kb S z K p2 D B)(q:Kq p B C)(a:D.length<=p):Kb S z K p2 D C:=⟨h.nu,h.z_,Sb (by have:=h.x.len;have:=q.1;lia) λi H=>(q.2 i (by lia)).trans (by obtain⟨l,e⟩:=h.x;rw[e];exact ah H)⟩
def m7 (c:z.length=K)(H:Kb S z K p2 D B)(f:K<=8)(b:κ < K)(v:0<=z.getD κ 0/\z.getD κ 0<=8)(r:row.length<=8){p:Nat}{i:bN}(a:B[p]? =some (.lst (i.map zo)))(q:i.length<50000){x3 x7 x8 x9 x10:Option W}:
  EB (fi p2 T x3 κ (rO p) row x7 x8 x9 x10) B=.ok (.nx (fi p2 T x3 κ (rO p) row x7 x8 x9 x10)) ((B++[O.lst ((yJ (z.getD κ 0) row).map zo)]).set p (O.lst ((i++yJ (z.getD κ 0) row).map zo))):=by
 have h:B[p2]? =some (.lst (z.map W.int)):=H.x.at H.z_;have e:zm zH qg ql (fi p2 T x3 κ (rO p) row x7 x8 x9 x10) B=.ok (.int (z.getD κ 0)) B:=(zE (zi rfl) (zi rfl)).trans (wH h (int_at (by lia)))
 have E:=gB (cap:=[6]) (mi:=Jg (zm gX qB (zm zH qg ql)) (zm qJ (zm zH qg ql) jj)) (me:=zm qJ zD (qP (zj zI zw))) (ρ:=fi p2 T x3 κ (rO p) row x7 x8 x9 x10) (A:=B) (N:=(2 * z.getD κ 0+1).toNat) (j:=jE (0-z.getD κ 0) (z.getD κ 0+1-(0-z.getD κ 0)).toNat)
  (item:=λd=>.int (0-z.getD κ 0+(d:Int))) (g:=λd=>zo (row++[-z.getD κ 0+(d:Int)]))
  (Tf ((zE zN e).trans rfl) ((zE e zN).trans rfl) (Jw (by lia) (by lia)) (Jw (by lia) (by lia))) (by show(z.getD κ 0+1-(0-z.getD κ 0)).toNat=_;lia) (by unfold zX;lia) (λd n=>yh (by lia)) (yf (by lia))
  (λd n=>by
   refine(zE (zi rfl) (kZ (zr (zi rfl) zF))).trans ((UY (by rw[ag];simp;lia)).trans ?_)
   unfold zo;rw[aN,show 0-z.getD κ 0+(d:Int)=-z.getD κ 0+(d:Int) by lia]
   rfl)
 have o:((List.range (2 * z.getD κ 0+1).toNat).map λ(d:Nat)=>zo (row++[-z.getD κ 0+(d:Int)]))=(yJ (z.getD κ 0) row).map zo:=by unfold yJ;rw[aW];rfl
 rw[o]at E;have l:(yJ (z.getD κ 0) row).length=(2 * z.getD κ 0+1).toNat:=by unfold yJ;simp
 refine(zA (kj (w:=.non) ((Jx (zi rfl) a (kf E)).trans ((De (jx a) qN (by rw[ag,ag,l];unfold zX;lia)).trans ?_)))).trans qx
 rw[aN]
def m8 (d:z.length=K)(n:Kb S z K p2 D B)(l:K<=8)(H:κ < K)(v:0<=z.getD κ 0/\z.getD κ 0<=8){p3 p5:Nat}{rs:bN}(f:∀r∈rs,r.length<=8)(u:(rs.flatMap (yJ (z.getD κ 0))).length<40000)(a:B[p3]? =some (.lst (rs.map zo)))(b:B[p5]? =some (.lst []))(t:D.length<=p3)(Q:p3<p5){x6 x7 x8 x9 x10:Option W}:
  ∃C y6,jM (q9 qb) (zQ 6) EB (fr p2 T (rO p3) (iO κ) (rO p5) x6 x7 x8 x9 x10) B=.ok (.nx (fr p2 T (rO p3) (iO κ) (rO p5) y6 x7 x8 x9 x10)) C/\C[p5]? =some (.lst ((rs.flatMap (yJ (z.getD κ 0))).map zo))/\Kq p5 B C:=by
 have L:=jS b;have cut:∀m,((rs.take m).flatMap (yJ (z.getD κ 0))).length<=(rs.flatMap (yJ (z.getD κ 0))).length:=λm=>by
  have:rs.flatMap (yJ (z.getD κ 0))=(rs.take m).flatMap (yJ (z.getD κ 0))++(rs.drop m).flatMap (yJ (z.getD κ 0)):=by rw[<- flatMap_append,take_append_drop]
  rw[this,aw];lia
 obtain⟨c,C,e,y6,rfl,y,x⟩:=yK (j:=⟨λA i=>(zW (.ref p3) A).map λJ=>J[i]?,(rs.map zo).length⟩) (st:=turn (zQ 6) EB) (N:=rs.length)
  (I:=λm E C=>∃y6,E=fr p2 T (rO p3) (iO κ) (rO p5) y6 x7 x8 x9 x10/\C[p5]? =some (.lst (((rs.take m).flatMap (yJ (z.getD κ 0))).map zo))/\Kq p5 B C)
  (λm E C M ⟨y6,h,y,x⟩=>by
   subst h;have p:C[p3]? =some (.lst (rs.map zo)):=(x.2 p3 Q).trans a;have o:=Kq.kb n x (by lia)
   have e:=m7 (T:=T) (x3:=rO p3) (x7:=x7) (x8:=x8) (x9:=x9) (x10:=x10) (row:=rs[m]) d o l H v (f _ (aJ M)) y (by have:=cut m;lia)
   refine⟨zo rs[m],_,_,?_,(jY rfl).trans e,_,rfl,?_,?_,λq g=>?_⟩
   ·exact(wZ p).trans (by rw[ax,ae M];rfl)
   ·rw[take_succ M,flatMap_append]
    simp only[flatMap_cons,flatMap_nil,a5];exact ar (by rw[aw];have:=x.1;lia)
   ·rw[bw,aw]
    have:=x.1
    lia
   ·rw[av (by lia),ah (by have:=x.1;lia)]
    exact x.2 q g)
  (λE C ⟨y6,_,_,x⟩=>(wZ ((x.2 p3 Q).trans a)).trans (by rw[aD (by simp)])) rs.length 0 (fr p2 T (rO p3) (iO κ) (rO p5) x6 x7 x8 x9 x10) B (by lia) ⟨x6,rfl,by rw[b];rfl,aq _,λ_ _=>rfl⟩
 rw[take_length]at y;refine⟨C,y6,(jC (Jz (zi rfl) a)).trans ?_,y,x⟩;rw[show(jt.len ⟨λA i=>(zW (.ref p3) A).map λJ=>J[i]?,(rs.map zo).length⟩)=rs.length by simp]
 exact e
def m9 (w:Wf K S)(d:z.length=K)(j:Kb S z K p2 D B)(i:K<=8)(a:κ < K)(r:row.length=κ + 1)(f:∀v∈row,-100<v/\v<100){p:Nat}{t:bN}(b:B[p]? =some (.lst (t.map zo)))(A:t.length<40000){x5 x7 x8 x9 x10:Option W}:
  ∃C y8 Y y,RB (fi p2 T (rO p) κ x5 row x7 x8 x9 x10) B=.ok (.nx (fi p2 T (rO p) κ x5 row (bO (gd S K κ row)) y8 Y y)) C/\C[p]? =some (.lst ((t++[row].filter (gd S K κ)).map zo))/\B.length<=C.length/\∀q,q<B.length->q≠p->C[q]? =B[q]?:=by
 obtain⟨C,y8,Y,y,e,x⟩:=m6 (T:=T) (x3:=rO p) (x5:=x5) (x8:=x8) (x9:=x9) (x10:=x10) w d j i a r f;have c:=x.at b;have n:=jS b;have L:=x.len;have o:∀q,q<B.length->C[q]? =B[q]?:=λq h=>by obtain⟨l,rfl⟩:=x;exact ah h
 have E:qA 7 jl (fi p2 T (rO p) κ x5 row x7 x8 x9 x10) B=.ok (.nx (fi p2 T (rO p) κ x5 row (bO true) x8 x9 x10)) B:=rfl
 by_cases g:gd S K κ row=true
 ·rw[g]at e ⊢
  refine⟨C.set p (.lst ((t++[row]).map zo)),y8,Y,y,(zA E).trans ((zA e).trans ((zA ((yC (zi rfl)).trans ((zA (kj (w:=.non) ((Jx (zi rfl) c (zi rfl)).trans ((Dr c (by rw[ag];lia)).trans ?_)))).trans qx))).trans qx)),?_,by rw[bw];exact L,λq h u=>(av (Ne.symm u)).trans (o q h)⟩
  ·rw[aN]
   rfl
  ·rw[ar (by lia)]
   simp[g]
 ·have H:gd S K κ row=false:=by simpa using g
  rw[H]at e ⊢;refine⟨C,y8,Y,y,(zA E).trans ((zA e).trans ((zA ((jT (zi rfl)).trans qx)).trans qx)),?_,L,λq h _=>o q h⟩;rw[c];simp[H]
def nc (w:Wf K S)(d:z.length=K)(n:Kb S z K p2 D B)(l:K<=8)(H:κ < K){p3 p5:Nat}{rs:bN}(f:∀r∈rs,r.length=κ + 1/\∀v∈r,-100<v/\v<100)(M:rs.length<40000)(b:B[p3]? =some (.lst []))(a:B[p5]? =some (.lst (rs.map zo)))(J:D.length<=p5)(Q:p5<p3){x6 x7 x8 x9 x10:Option W}:
  ∃C y6 y7 y8 Y y,jM (q9 jX) (zQ 6) RB (fr p2 T (rO p3) (iO κ) (rO p5) x6 x7 x8 x9 x10) B=.ok (.nx (fr p2 T (rO p3) (iO κ) (rO p5) y6 y7 y8 Y y)) C/\C[p3]? =some (.lst ((rs.filter (gd S K κ)).map zo))/\Kq p3 B C:=by
 have L:=jS b;obtain⟨c,C,e,y6,y7,y8,Y,y,rfl,U,P⟩:=yK (j:=⟨λA i=>(zW (.ref p5) A).map λws=>ws[i]?,(rs.map zo).length⟩) (st:=turn (zQ 6) RB) (N:=rs.length)
  (I:=λm X C=>∃y6 y7 y8 Y y,X=fr p2 T (rO p3) (iO κ) (rO p5) y6 y7 y8 Y y/\C[p3]? =some (.lst (((rs.take m).filter (gd S K κ)).map zo))/\Kq p3 B C)
  (λm X C hm ⟨y6,y7,y8,Y,y,h,U,P⟩=>by
   subst h;have u:C[p5]? =some (.lst (rs.map zo)):=(P.2 p5 Q).trans a;have t:=Kq.kb n P (by lia)
   obtain⟨k1,k2⟩:=f _ (aJ hm);have lf:((rs.take m).filter (gd S K κ)).length<40000:=by have a1:=List.length_filter_le (gd S K κ) (rs.take m);have a2:=List.length_take_le m rs;lia
   obtain⟨D,E,x,Z,e,p,d2,o⟩:=m9 (T:=T) (x5:=rO p5) (x7:=y7) (x8:=y8) (x9:=Y) (x10:=y) w d t l H k1 k2 U lf;refine⟨zo rs[m],_,D,?_,(jY rfl).trans e,_,_,_,_,_,rfl,?_,aZ P.1 d2,λq g=>?_⟩
   ·exact(wZ u).trans (by rw[ax,ae hm];rfl)
   ·rw[p,take_succ hm,List.filter_append]
   ·rw[o q (by have:=P.1;lia) (by lia)]
    exact P.2 q g)
  (λX C ⟨_,_,_,_,_,_,_,P⟩=>(wZ ((P.2 p5 Q).trans a)).trans (by rw[aD (by simp)])) rs.length 0 (fr p2 T (rO p3) (iO κ) (rO p5) x6 x7 x8 x9 x10) B (by lia) ⟨x6,x7,x8,x9,x10,rfl,by rw[b];rfl,aq _,λ_ _=>rfl⟩
 rw[take_length]at U;refine⟨C,y6,y7,y8,Y,y,(jC (Jz (zi rfl) a)).trans ?_,U,P⟩;rw[show(jt.len ⟨λA i=>(zW (.ref p5) A).map λws=>ws[i]?,(rs.map zo).length⟩)=rs.length by simp]
 exact e
end
section
variable {S:List (bN)}{z v:bP}{K κ k j m:Nat}{C:Hx}
def AV {s:Int}(h:0<=s)(r:bP):yJ s r=(ext s r).reverse:=by
 unfold yJ ext dn;rw[aW];refine a8 (by simp;lia) λi H a=>?_
 have H:i<(2 * s+1).toNat:=by simpa using H
 rw[List.getElem_reverse];simp only[getElem_map,getElem_range,ag,aI,Function.comp]
 congr 2
 lia
theorem U2 {s:Int}(h:0<=s):∀L:bN,L.reverse.flatMap (yJ s)=(L.flatMap (ext s)).reverse
 |[]=>rfl|a::L=>by rw[bH,flatMap_append,U2 h L,List.flatMap_singleton,AV h,flatMap_cons,List.reverse_append]
theorem XJ (h:Zs K z):∀k,k<K->yR S z K k=(ZS (gd S K) z k).reverse
 |0,_=>rfl|k+1,H=>by have Z:=h.le H;show((yR S z K k).flatMap (yJ (z.getD (k+1) 0))).filter (gd S K (k+1))=(((ZS (gd S K) z k).flatMap (ext (z.getD (k+1) 0))).filter (gd S K (k+1))).reverse;rw[XJ h k (by lia),U2 (by lia),List.filter_reverse]
def nh (H:Zs K z)(d:k+1<K):((yR S z K k).flatMap (yJ (z.getD (k+1) 0))).length<40000/\(∀r∈yR S z K k,r.length=k+1)/\∀r∈(yR S z K k).flatMap (yJ (z.getD (k+1) 0)),r.length=k+1+1/\∀v∈r,-100<v/\v<100:=by
 have Z:=H.le d;have sh:=Yz (p:=gd S K) H k (by lia)
 rw[XJ H k (by lia),U2 (by lia)]
 refine⟨?_,λr a=>(sh r (List.mem_reverse.mp a)).1,λr a=>?_⟩
 ·rw[bA,lV]
  have j:=NH (p:=gd S K) H (k:=k) (by lia)
  have i:2 * (z.getD (k+1) 0).toNat+1<=17:=by lia
  exact Nat.lt_of_le_of_lt (mul_le_mul j i) (by decide)
 ·obtain⟨x,b,g⟩:=List.mem_flatMap.mp (List.mem_reverse.mp a)
  obtain⟨v,c,rfl⟩:=K7.mp g;obtain⟨f,e,_⟩:=sh x b;have D:=(TQ (by lia)).mp c
  refine⟨by rw[aw,f];rfl,λu h=>?_⟩
  rcases cy.mp h with h|h
  ·have:=e u h;lia
  ·rw[cx.mp h];lia
def Az (w:Wf K S)(f:Full K S v)(h:κ < K):gd S K κ (v.take (κ + 1))=true:=by
 unfold gd;rw[aY];intro i H;have H:=cj.mp H;unfold QO
 by_cases a:kz (wa S K κ i++[0])=0
 ·rw[ay a,Bool.not_true,Bool.false_or,ao,Yy H,Yy (by lia),f i κ (by lia) h]
  show _=sm (κ + 1) λk=>pS S k i κ * (v.take (κ + 1)).getD k 0;have e:K=(κ + 1)+(K-(κ + 1)):=by lia
  rw[e,Sa (K-(κ + 1)) λk j g=>?_]
  ·exact yr λk h=>by rw[Yy h]
  ·have c:pS S k i κ<=kz (wa S K κ i++[0]):=Tv (bt _ (by unfold wa;exact cu.mpr ⟨k-(κ + 1),cj.mpr (by lia),by rw[show κ + 1+(k-(κ + 1))=k by lia]⟩))
   have d:=(w.b (S.getD k []) (by rw[aa,ae (by rw[w.l];lia)];exact aJ _) i κ).1
   have:pS S k i κ=0:=by
    have:0<=pS S k i κ:=d
    lia
   rw[this,zero_mul]
 ·rw[aG a]
  rfl
def Ms (v:bP):(v.map W.int).map vI=v:=by rw[aW];exact List.map_id v
def Ao (v:bP):(v.map W.int).all yH=true:=by rw[all_map];exact cw.mpr λ_ _=>rfl
def N5:wz S K (zo v)=(decide (v.length=K)&&(decide (v.getD 0 0=1)&&yD S v)):=by show(decide ((v.map W.int).length=K)&&((v.map W.int).all yH&&(decide (((v.map W.int).map vI).getD 0 0=1)&&yD S ((v.map W.int).map vI))))=_;rw[ag,Ms,Ao,Bool.true_and]
def ni (w:Wf K S)(h:wz S K (zo v)=true):v.length=K/\v.getD 0 0=1/\Full K S v:=by rw[N5,ak,ak,ao,ao]at h;exact⟨h.1,h.2.1,(GY w.l h.1).mp h.2.2⟩
def nj (w:Wf K S)(h:Wt K S z v):wz S K (zo v)=true:=by
 rw[N5,ay h.l,ay h.o,(GY w.l h.l).mpr h.f]
 rfl
def W0 (S:List (bN))(K:Nat)(r:bP):Bool:=wz S K (zo r)
abbrev gS (S:List (bN))(z:bP)(K:Nat):bN:=(yR S z K (K-1)).filter (W0 S K)
def nk (w:Wf K S)(H:Zs K z)(e:1<=K)(g:K=1->pS S 0 0 0=1):gS S z K=(Ql S z (K-1)).reverse:=by
 unfold gS;rw[XJ H _ (by lia),List.filter_reverse]
 congr 1
 refine OT ((KS H _ (by lia)).filter _) (KS H _ (by lia)) λv=>?_
 rw[N6 H w.l e g,mem_filter]
 constructor
 ·rintro⟨n,j⟩
  obtain⟨_,_,_,d⟩:=Yz H (K-1) (by lia) v n
  obtain⟨A,a2,a⟩:=ni w j;exact⟨A,a2,λi c=>d i (by lia),a⟩
 ·intro h
  refine⟨?_,nj w h⟩
  have:=Sf (p:=gd S K) H (λk b=>Az w h.f (by lia)) h (K-1) (by lia)
  rwa[bz (by have:=h.l;lia)]at this
def nq {K:bN}(h:K.Pairwise λa b=>yj a b=true):WR K=true:=by
 unfold WR;rw[aY];intro a H;have H:=cj.mp H;cases a with
 |zero=>rfl|succ a=>
  have e:=U1 _ _ (List.pairwise_iff_getElem.mp h a (a+1) (by lia) H (by lia))
  rw[aa,ae H,aa,Nat.add_sub_cancel,ae (by lia)]
  show(_ || !yj K[a+1] K[a])=true;rw[e]
  rfl
theorem Nq:∀{l:bN},(∀k∈l,k≠[])->QB (l.map zo)=some l
 |[],_=>rfl|x::l,h=>by
  show(match intsOf (x.map W.int) with|some k=>if k=[] then none else(QB (l.map zo)).map (k::·)|none=>none)=_
  rw[KP];dsimp only;rw[aj (h x (aF ..)),Nq λk H=>h k (az _ H)]
  rfl
def NO (H:v.length<=100)(b:Bg v):wA A (zo v):=.inl ⟨v.map W.int,rfl,by rw[ag];exact H,λx h=>by obtain⟨i,_,rfl⟩:=cu.mp h;exact⟨rfl,.int,λ_=>rfl⟩,by rw[Ms];exact b⟩
abbrev KBd:Ex:=zG (qA 5 (qO zw)) (zG (jM (q9 qb) (zQ 6) EB) (zG (qA 3 (qO zw)) (zG (jM (q9 jX) (zQ 6) RB) zS)))
def nt (d:Dt t K S z)(sh:∀a b,a<t.length->b<t.length->je t K a b=S.getD (at2 t a b).toNat [])(h1:K=1->pS S 0 0 0=1)(J:(Ql S z (K-1)).length<64):∃n B,RX [zp t] []=.ok (.ref n) B/\B[n]? =some (.lst ((Ql S z (K-1)).map zo)):=by
 have w:=d.wf;have p:=d.zs.l;have k1:=d.k1;have k8:=d.k8;have zb:∀i,i<K->0<=z.getD i 0/\z.getD i 0<=8:=λi hi=>by have:=d.zs.le hi;lia
 obtain⟨f,en,_,nB⟩:=Ld d.tab d.kd sh [];have L:Uy [zp t] f=.ok (.ref f.length) (f++[.lst (z.map W.int)]):=d.zf f;have kb:Kb S z K f.length (f++[.lst (z.map W.int)]) (f++[.lst (z.map W.int)]):=⟨nB.ext .one,qN,.refl⟩;generalize f.length=p2 at L kb;generalize hD:f++[O.lst (z.map W.int)]=g at L kb;obtain⟨ρ',B,e,p3,x4,x5,x6,x7,x8,x9,x10,rfl,Q,g1,g2⟩:=yK (j:=jE 1 (((z.map W.int).length:Int)-1).toNat) (st:=turn (zQ 4) KBd) (N:=K-1)
  (I:=λm ρ B=>∃p3 x4 x5 x6 x7 x8 x9 x10,ρ=fr p2 (zp t) (rO p3) x4 x5 x6 x7 x8 x9 x10/\g.length<=p3/\B[p3]? =some (.lst ((yR S z K m).map zo))/\Kb S z K p2 g B)
  (λm ρ B hm ⟨p3,x4,x5,x6,x7,x8,x9,x10,x,Q,g1,g2⟩=>by
   subst x;have l3:=jS g1;obtain⟨b2,b3,b4⟩:=nh (S:=S) d.zs (k:=m) (by lia)
   obtain⟨C,y6,e1,c5,cq⟩:=m8 (T:=zp t) (κ:=m+1) (p3:=p3) (p5:=B.length) (B:=B++[O.lst []]) (rs:=yR S z K m) (x6:=x6) (x7:=x7) (x8:=x8) (x9:=x9) (x10:=x10) p (g2.ext .one) k8 (by lia) (zb _ (by lia)) (λr h=>by rw[b3 r h];lia) b2 (jx g1) qN Q l3
   have ck:Kb S z K p2 g C:=Kq.kb (g2.ext .one) cq (by lia)
   have l5:=jS c5;obtain⟨D,y,y7,y8,y9,Y,M,d3,dq⟩:=nc (T:=zp t) (κ:=m+1) (p3:=C.length) (p5:=B.length) (B:=C++[O.lst []]) (rs:=(yR S z K m).flatMap (yJ (z.getD (m+1) 0))) (x6:=y6) (x7:=x7) (x8:=x8) (x9:=x9) (x10:=x10) w p (ck.ext .one) k8 (by lia) (λr h=>b4 r h) b2 qN (jx c5) (by lia) l5
   refine⟨.int (1+(m:Int)),fr p2 (zp t) (rO C.length) (iO (m+1)) (rO B.length) y y7 y8 y9 Y,D,yh (by rw[ag,p];lia),?_,C.length,_,_,_,_,_,_,_,rfl,by lia,d3,Kq.kb (ck.ext .one) dq (by lia)⟩
   rw[show(1:Int)+(m:Int)=((m+1:Nat):Int) by lia]
   exact(jY rfl).trans ((zA ((qj (jB zF)).trans rfl)).trans ((zA e1).trans ((zA ((qj (jB zF)).trans rfl)).trans ((zA M).trans qx)))))
  (λρ B _=>yf (by rw[ag,p];lia)) (K-1) 0 (fr p2 (zp t) (rO g.length) none none none none none none none) (g++[O.lst [zo [1]]]) (by lia)
  ⟨_,_,_,_,_,_,_,_,rfl,aq _,qN,kb.ext .one⟩
 have U:=XJ (S:=S) d.zs (K-1) (by lia)
 have fl:(yR S z K (K-1)).length<=2187:=by rw[U,bA];exact NH d.zs (by lia)
 have fs:∀r∈yR S z K (K-1),r.length=K/\Bg r:=λr h=>by
  rw[U]at h;obtain⟨s1,s2,_⟩:=Yz d.zs (K-1) (by lia) r (List.mem_reverse.mp h)
  exact⟨by lia,Nd λv hv=>by have:=s2 v hv;lia⟩
 obtain⟨ρ2,c2,q,Z,x2,rfl,_⟩:=UL (nl:=1) (cap:=[0]) (mi:=q9 qb) (ρ:=fr p2 (zp t) (rO p3) x4 x5 x6 x7 x8 x9 x10) (A:=B) (tw:=zQ 0) (ifs:=zO Zc (zj zD (zj zI zw))) (em:=qw zI) (N:=(yR S z K (K-1)).length)
  (I:=λk ρ c C=>Ext B C/\c=(((yR S z K (K-1)).take k).filter (W0 S K)).map zo/\∃P,ρ=[P,some (zp t)]) (Jz (zi rfl) g1) (by rw[ag])
  (λk ρ c C H ⟨x1,M,P,e3⟩=>by
   subst M e3;obtain⟨r1,r2⟩:=fs _ (aJ H);obtain⟨C2,ea,xa⟩:=LM (A:=C) w d.tab d.kd sh (NO (v:=(yR S z K (K-1))[k]) (by lia) r2)
   have E:zO Zc (zj zD (zj zI zw)) [some (zo (yR S z K (K-1))[k]),some (zp t)] C=.ok (.bl (W0 S K (yR S z K (K-1))[k])) C2:=(zM (zr (ma:=zD) (zi rfl) (zr (ma:=zI) (zi rfl) zF))).trans ea;refine⟨zo (yR S z K (K-1))[k],[some (zo (yR S z K (K-1))[k]),some (zp t)],(wZ (x1.at g1)).trans (by rw[ax,ae H];rfl),rfl,?_⟩
   have X:=x1.trans xa;cases hf:W0 S K (yR S z K (K-1))[k] with
   |true=>
    rw[hf]at E;refine .inl ⟨_,_,_,_,E,UX (zi rfl) ?_,X,?_,_,rfl⟩
    ·rw[ag]
     have:=List.length_filter_le (W0 S K) ((yR S z K (K-1)).take k)
     rw[bD]at this;unfold zX;lia
    ·rw[take_succ H,List.filter_append,aN,List.filter_cons_of_pos hf,List.filter_nil];rfl
   |false=>
    rw[hf]at E;refine .inr ⟨_,E,X,?_,_,rfl⟩;rw[take_succ H,List.filter_append,List.filter_cons_of_neg (by rw[hf];decide),List.filter_nil,a5])
  (λρ c C ⟨x1,_⟩=>(wZ (x1.at g1)).trans (by rw[aD (by rw[ag];exact aq _)]))
  ⟨.refl,by rw[take_zero];rfl,_,rfl⟩
 rw[bz (aq _)]at Z;have e7:=kf Z;have u:=nk w d.zs k1 h1;have tk:QB ((gS S z K).map zo)=some (gS S z K):=Nq λk H e=>by
  have:=(fs k (List.mem_filter.mp H).1).1
  rw[e]at this;simp at this;lia
 have e6:XY (.ref q.length) (q++[O.lst ((gS S z K).map zo)])=.ok (.ref (q++[O.lst ((gS S z K).map zo)]).length) (q++[O.lst ((gS S z K).map zo)]++[O.lst ((gS S z K).map zo)]):=by unfold XY;dsimp only;rw[qN];dsimp only;rw[tk];dsimp only;rw[ai ⟨by rw[u,bA];exact J,nq (by rw[u,List.pairwise_reverse];exact KS d.zs _ (by lia))⟩]
 generalize hB3:q++[O.lst ((gS S z K).map zo)]=o at e6 e7;have e5:Ss (Sj (jP (qD 1 [0] (q9 qb) (zQ 0) (zO Zc (zj zD (zj zI zw))) (qw zI)))) (g7 WS jj) (fr p2 (zp t) (rO p3) x4 x5 x6 x7 x8 x9 x10) B=.ok (.ref (o++[O.lst ((gS S z K).map zo)]).length) (o++[O.lst ((gS S z K).map zo)]++[.lst ((Ql S z (K-1)).map zo)]):=by
  unfold Ss Sj;rw[e7,zJ,e6,zJ];show(match (o++[O.lst ((gS S z K).map zo)])[o.length]? with|some (.lst ws)=>_|_=>_)=_
  rw[qN];show R.ok _ (_++[O.lst ((gS S z K).map zo).reverse])=_;rw[u,List.map_reverse,List.reverse_reverse]
 refine⟨(o++[O.lst ((gS S z K).map zo)]).length,o++[O.lst ((gS S z K).map zo)]++[.lst ((Ql S z (K-1)).map zo)],qM ?_,qN⟩;dsimp only[VX,mq];refine(zA (Xq (kZ (zr ((zM (zr (zi rfl) zF)).trans en) (zr ((zM (zr (zi rfl) zF)).trans L) zF))) rfl)).trans ?_;refine(zA (ρ1:=fr p2 (zp t) (rO g.length) none none none none none none none) (A1:=g++[O.lst [zo [1]]]) ((qj (jB (zr (kZ (zr zN zF)) zF))).trans rfl)).trans ?_;refine(zA ((jC (Tf (i:=1) (j:=((z.map W.int).length:Int)) zN (YM rfl (jx kb.z_)) (by decide) (Jw (by rw[ag];lia) (by rw[ag];lia)))).trans ?_)).trans (qh (qH e5))
 rw[show(jE 1 (((z.map W.int).length:Int)-1).toNat).len=K-1 by show(((z.map W.int).length:Int)-1).toNat=_;rw[ag,p];lia]
 exact e
def nv (d:Dt t K S z)(sh:∀a b,a<t.length->b<t.length->je t K a b=S.getD (at2 t a b).toNat [])(H:K=1->pS S 0 0 0=1)(h:(Ql S z (K-1)).length<64)(A:Hx):Qo [zp t] A=.ok (.ref A.length) (A++[.lst ((Ql S z (K-1)).map zo)]):=by obtain⟨n,B,E,e⟩:=nt d sh H h;exact TC (ZN t) E e (Q4 Z4 _)
end
section
variable {K:Nat}
structure Tb (t:bN)(K:Nat):Prop where
 d:Dt t K (SL t K) (yo t K)
 s:jI t
 l:(Rw t K).length<64
def Tb.sh (h:Tb t K):∀a b,a<t.length->b<t.length->je t K a b=(SL t K).getD (at2 t a b).toNat []:=Wz h.d.tab h.s h.d.kd
def Tb.al (h:Tb t K)(A:Hx):Qo [zp t] A=.ok (.ref A.length) (A++[.lst ((Rw t K).map zo)]):=nv h.d h.sh (LN h.d.tab h.s h.d.kd) h.l A
def Tb.z (h:Tb t K):yo t K∈Rw t K:=(JM h.d.tab h.s h.d.kd).mpr ⟨h.d.zs.l,h.d.zs.h,λi H=>by have:=h.d.zs.le H;lia,MC h.d.tab h.s h.d.kd⟩
def Tb.w (h:Tb t K){v:bP}(H:v∈Rw t K):Wt K (SL t K) (yo t K) v:=(JM h.d.tab h.s h.d.kd).mp H
def ny (s:qQ n A):∃t K o,Tb t K/\Jp [.ref n] A=.ok (zp t) (A.set n o)/\qQ n (A.set n o):=by obtain⟨b,d,p,q,o,a,H,e,i⟩:=CL s;obtain⟨c,B,g,f⟩:=MZ d;have h:=md c g a H;have S:=Eo c a H B;exact⟨_,_,o,⟨l9 h.ht S h.kt,S,by rw[<- ag (ps p (qf b).toNat),(mu h B S).length_eq];exact f⟩,e,i⟩
variable {w z:bP}{j k l:Nat}{S:List (bN)}
noncomputable def tb (z w:bP):Nat->Int×Int
 |0=>(0,1)|k+1=>((tb z w k).1 * z.getD k 0+w.getD k 0 * w.getD k 0 * (tb z w k).2,(tb z w k).2 * z.getD k 0)
def Rt {v:Int}(h:-9<v/\v<9):0<=v * v/\v * v<=64:=by
 have a:v.natAbs<=8:=by lia
 have:=Nat.mul_le_mul a a
 rw[← Int.natAbs_mul_self];lia
theorem SR (H:Zs K z)(o:w.length=K)(c:∀v∈w,-9<v/\v<9)(l:w.getD 0 0=1):∀k,k<=K->(0<(tb z w k).2/\(tb z w k).2<=(8:Int) ^ k)/\(0<=(tb z w k).1/\(tb z w k).1<=64 * (k:Int) * (8:Int) ^ k)/\(1<=k->0<(tb z w k).1)
 |0,_=>by
  refine⟨?_,?_,λh=>absurd h (by lia)⟩
  ·show 0<(1:Int)/\(1:Int)<=8 ^ 0
   decide
  ·show 0<=(0:Int)/\(0:Int)<=64 * ((0:Nat):Int) * 8 ^ 0
   decide
 |k+1,i=>by
  obtain⟨⟨g,d⟩,⟨c1,C⟩,e⟩:=SR H o c l k (by lia)
  have Z:=H.le (k:=k) (by lia)
  have b:=Rt (c _ (getD_mem (w:=w) (k:=k) (by lia)))
  have p:(0:Int)<8 ^ k:=Int.pow_pos (by decide)
  have f:k=0->w.getD k 0 * w.getD k 0=1:=λq=>by subst q;rw[l];rfl
  unfold tb;generalize (tb z w k).1=T at*;generalize (tb z w k).2=B at*;generalize w.getD k 0 * w.getD k 0=a at*;have N:=mul_nonneg c1 (show 0<=z.getD k 0 by lia)
  have n:=mul_nonneg b.1 (show 0<=B by lia)
  refine⟨⟨Int.mul_pos g (by lia),?_⟩,⟨?_,?_⟩,λ_=>?_⟩
  ·rw[Int.pow_succ]
   exact Int.mul_le_mul d Z.2 (by lia) (by lia)
  ·exact Int.add_nonneg N n
  ·have t:T * z.getD k 0<=64 * (k:Int) * 8 ^ k * 8:=Int.mul_le_mul C Z.2 (by lia) (mul_nonneg (by lia) (by lia))
   have r:a * B<=64 * 8 ^ k:=Int.mul_le_mul b.2 d (by lia) (by lia)
   have j:64 * ((k+1:Nat):Int) * (8:Int) ^ (k+1)=64 * (k:Int) * 8 ^ k * 8+512 * 8 ^ k:=by
    rw[Int.pow_succ]
    grind
   show T * z.getD k 0+a * B<=_;lia
  ·show 0<T * z.getD k 0+a * B
   by_cases q:k=0
   ·rw[f q]at n ⊢
    lia
   ·have:=Int.mul_pos (e (by lia)) (show 0<z.getD k 0 by lia)
    lia
def L7 {k:Nat}(h:k<=8):(8:Int) ^ k<=16777216:=by
 have:=Nat.pow_le_pow_right (show 8>0 by decide) h
 have:(8:Int) ^ k=((8 ^ k:Nat):Int):=(Int.natCast_pow 8 k).symm
 lia
def nz (h:Zs K z)(a:K<=8)(e:w.length=K)(b:∀v∈w,-9<v/\v<9)(f:w.getD 0 0=1)(H:k<=K):(0<(tb z w k).2/\(tb z w k).2<=16777216)/\0<=(tb z w k).1/\(tb z w k).1<=8589934592:=by
 obtain⟨⟨d,B⟩,⟨c1,c⟩,_⟩:=SR h e b f k H;have p:=L7 (k:=k) (by lia)
 have P:(0:Int)<8 ^ k:=Int.pow_pos (by decide)
 have:64 * (k:Int) * 8 ^ k<=512 * 16777216:=Int.mul_le_mul (by lia) p (by lia) (by decide)
 lia
def Kw (n K:Nat)(z w:bP):Int:=(n:Int) * (tb z w K).2/(tb z w K).1
def nA (d:Dt t K S z)(h:Wt K S z w):0<(tb z w K).1/\0<=Kw t.length K z w/\Kw t.length K z w<=134217728:=by
 have H:=h.sm d.zs;have n:=d.tab.n8;have a:=d.k8;obtain⟨⟨B,b⟩,_,T⟩:=SR d.zs h.l H h.o K (aq _);have T:=T d.k1;have p:=L7 a;refine⟨T,Int.ediv_nonneg (mul_nonneg (by lia) (by lia)) (by lia),?_⟩
 unfold Kw;have c:(t.length:Int) * (tb z w K).2<=8 * 16777216:=Int.mul_le_mul (by lia) (by lia) (by lia) (by lia)
 exact Int.le_trans (Int.ediv_le_self _ (mul_nonneg (by lia) (by lia))) c
def NX (d:Dt t K S z)(h:Wt K S z w)(A:Hx):Pn [zp t,zo w] A=.ok (.int (Kw t.length K z w)) A/\Ym [zp t,zo w] A=.ok (.int (Kw t.length K z w)) A:=by
 have r:=h.l;have q:=d.zs.l;have Q:=d.k1;have M:=d.k8;have g:=h.sm d.zs;have P:=d.tab.n8;have D:=λk (b:k<=K)=>nz (k:=k) d.zs M r g h.o b;have J:qR [zp t,zo w]=true:=by show((zp t).nr&&((zo w).nr&&true))=true;rw[Ze,Z4];rfl
 have Z:(z.map W.int).length=K:=by rw[ag,q]
 have T:=(nA d h).1;obtain⟨⟨p,i⟩,c1,C⟩:=D K (aq _);have step:∀k,k<K->(wN (.ref 0) (zo w) (z.map W.int).length).at_ [.lst (z.map W.int)] k=some (some (.tup [.int (z.getD k 0),.int (w.getD k 0)])):=λk b=>(XF (n:=0) (us:=z.map W.int) rfl k _).trans (by rw[int_at (by lia),int_at (by lia)];rfl)
 have stop:(wN (.ref 0) (zo w) (z.map W.int).length).at_ [.lst (z.map W.int)] K=some none:=(XF (n:=0) (us:=z.map W.int) rfl K _).trans (by rw[aD (by rw[ag];lia)];rfl)
 constructor
 ·have E:Zj (zO KL (zj zI zw)) zD [some (zp t),some (zo w),iV 0,iV 1,none,none] []=.ok (wN (.ref 0) (zo w) (z.map W.int).length) [.lst (z.map W.int)]:=by
   have u:zO KL (zj zI zw) [some (zp t),some (zo w),iV 0,iV 1,none,none] []=.ok (.ref 0) [.lst (z.map W.int)]:=(zM (zr (zi rfl) zF)).trans (d.zf []);unfold Zj;rw[u,zJ,show zD [some (zp t),some (zo w),iV 0,iV 1,none,none] [.lst (z.map W.int)]=.ok (zo w) [.lst (z.map W.int)] from zi rfl,zJ]
   rfl
  obtain⟨c,B,e,H,Y,y,rfl⟩:=yK (j:=wN (.ref 0) (zo w) (z.map W.int).length) (st:=turn (jZ 4 5) (zG (qA 2 (zm qJ (zm qE qg ql) (zm qE (zm qE jX jX) qb))) (zG (qA 3 (zm qE qb ql)) zS))) (N:=K) (I:=λk x B=>B=[.lst (z.map W.int)]/\∃Y y,x=[some (zp t),some (zo w),iV (tb z w k).1,iV (tb z w k).2,Y,y])
   (λk x B b ⟨H,Y,y,a⟩=>by
    subst H a;obtain⟨⟨p,i⟩,c1,C⟩:=D k (by lia)
    have f:=g _ (getD_mem (w:=w) (k:=k) (by lia))
    have L:=Rt f;refine⟨_,_,_,step k b,(jY (ρ1:=[some (zp t),some (zo w),iV (tb z w k).1,iV (tb z w k).2,iV (z.getD k 0),iV (w.getD k 0)]) rfl).trans ((zA (qj ((zE ((zE (zi rfl) (zi rfl)).trans yN) ((zE ((zE (zi rfl) (zi rfl)).trans yN) (zi rfl)).trans yN)).trans rfl))).trans ((zA (qj ((zE (zi rfl) (zi rfl)).trans yN))).trans qx)),rfl,_,_,rfl⟩)
   (λx B ⟨H,_⟩=>by subst H;exact stop)
   K 0 [some (zp t),some (zo w),iV 0,iV 1,none,none] [.lst (z.map W.int)] (by lia) ⟨rfl,_,_,rfl⟩
  subst H;refine gI (A1:=[.lst (z.map W.int)]) J rfl (qM ?_);dsimp only[Uj,mq];refine(zA (qj zN)).trans ((zA (qj zN)).trans ((zA ((jC E).trans (by show yb _ _ (z.map W.int).length 0 _ _=_;rw[Z]at e ⊢;exact e))).trans (qh (qH ((zE ((zE (len_tab (t:=t) rfl) (zi rfl)).trans yN) (zi rfl)).trans (Xw T (by lia)))))))
 ·have E:Zj qg zD [some (zp t),some (zo w),rO 0,iV 0,iV 1,none,none] [.lst (z.map W.int)]=.ok (wN (.ref 0) (zo w) (z.map W.int).length) [.lst (z.map W.int)]:=rfl
  obtain⟨c,B,e,H,Y,y,rfl⟩:=yK (j:=wN (.ref 0) (zo w) (z.map W.int).length) (st:=turn (jZ 5 6) (zG (qA 3 (zm qJ (zm qE qb jX) (zm qE (zm qE kU kU) ql))) (zG (qA 4 (zm qE ql jX)) zS))) (N:=K) (I:=λk x B=>B=[.lst (z.map W.int)]/\∃Y y,x=[some (zp t),some (zo w),rO 0,iV (tb z w k).1,iV (tb z w k).2,Y,y])
   (λk x B b ⟨H,Y,y,a⟩=>by
    subst H a;obtain⟨⟨p,i⟩,c1,C⟩:=D k (by lia)
    have f:=g _ (getD_mem (w:=w) (k:=k) (by lia))
    have L:=Rt f;refine⟨_,_,_,step k b,(jY (ρ1:=[some (zp t),some (zo w),rO 0,iV (tb z w k).1,iV (tb z w k).2,iV (z.getD k 0),iV (w.getD k 0)]) rfl).trans ((zA (qj ((zE ((zE (zi rfl) (zi rfl)).trans yN) ((zE ((zE (zi rfl) (zi rfl)).trans yN) (zi rfl)).trans yN)).trans rfl))).trans ((zA (qj ((zE (zi rfl) (zi rfl)).trans yN))).trans qx)),rfl,_,_,rfl⟩)
   (λx B ⟨H,_⟩=>by subst H;exact stop)
   K 0 [some (zp t),some (zo w),rO 0,iV 0,iV 1,none,none] [.lst (z.map W.int)] (by lia) ⟨rfl,_,_,rfl⟩
  subst H;refine gI (A1:=[.lst (z.map W.int)]) J rfl (qM ?_);dsimp only[Uq,mq];have v:zO Uy (zj zI zw) [some (zp t),some (zo w),none,none,none,none,none] []=.ok (.ref 0) [.lst (z.map W.int)]:=(zM (zr (zi rfl) zF)).trans (d.zf []);refine(zA (qj v)).trans ((zA (ρ1:=[some (zp t),some (zo w),rO 0,iV 0,iV 1,none,none]) (A1:=[.lst (z.map W.int)]) rfl).trans ((zA ((jC E).trans (by show yb _ _ (z.map W.int).length 0 _ _=_;rw[Z]at e ⊢;exact e))).trans (qh (qH ((zE ((zE (len_tab (t:=t) rfl) (zi rfl)).trans yN) (zi rfl)).trans (Xw T (by lia)))))))
end
def two_N {j:Nat}(h:jq (.ref j) A=some .lst):Jm A (.tup [.tup [.int 0,.int 1],.ref j]):=λB k=>by
 unfold gA GJ;refine qM ?_;dsimp only[KR,mq];have H:=k _ _ h;have e:gz [.ref j,.int 2] B=.ok (.bl false) B:=by unfold gz Yr;refine qM ?_;dsimp only[Js,mq];exact qh (qH (Qv ((Je (zi rfl) H).trans rfl)))
 have b:QU [.ref j,.int 2,.int 2] B=.ok (.bl false) B:=by unfold QU VZ;refine qM ?_;dsimp only[Gf,mq];exact qh (qH (Qv ((zM (ws:=[.ref j,.int 2]) (A1:=B) rfl).trans e)))
 have a:QU [.tup [.int 0,.int 1],.int 2,.int 2] B=.ok (.bl true) B:=by kernel_rfl
 have E:=YI (cap:=[1]) (A:=B) (ρ:=[some (.tup [.tup [.int 0,.int 1],.ref j]),iV 2]) (ws:=[.tup [.int 0,.int 1],.ref j]) (me:=zO QU (zj zI (zj zD (zj zD zw)))) (g:=λw=>match w with|.tup _=>.bl true|_=>.bl false) (zi (i:=0) rfl) (by simp[zX]) (λw c=>by
  rcases cn.mp c with rfl|c
  ·exact(zM (A1:=B) rfl).trans a
  ·rw[cx.mp c]
   exact(zM (ws:=[.ref j,.int 2,.int 2]) (A1:=B) rfl).trans b)
 refine(zA (ρ1:=[some (.tup [.tup [.int 0,.int 1],.ref j]),none]) (A1:=B) rfl).trans ((zA (ρ1:=[some (.tup [.tup [.int 0,.int 1],.ref j]),iV 2]) (A1:=B) rfl).trans ?_);exact qh ((yC (yM (k:=false) ((j0 E).trans rfl))).trans (qh (qH zN)))
noncomputable def Kv (f:Fn)(u:List W)(l:List W):Option (List W):=match f (.ref 0::u) [.lst l] with
 |.ok _ A=>(match (List.head? A:Option O) with|some (.lst l2)=>some l2|_=>none)
 |_=>none
set_option tactic.hygienic true in
def U3 {f:Fn}{us:List W}{l:List W}{v:W}(a:A[n]? =some (.lst l))(h:kx f (.ref n::us) A=.ok v B):∃L,Kv f us l=some L/\B=A.set n (.lst L)/\qR L=true:=by
 unfold kx at h;dsimp only at h;rw[a]at h;dsimp only at h
 split at h
 ·unfold Kv
  split at h
  ·rename_i w c e
   try (rw[e];dsimp only)
   split at h
   ·rename_i b E
    split at h
    ·rename_i H
     rw[ak]at H;cases h;exact⟨b,by first|rw[E]|rfl,rfl,H.1⟩
    ·cases h
   ·cases h
  ·cases h
 ·cases h
section
variable {k:Nat}{q:Hx->W->Prop}{l:List W}
def BY {r:Nat}{b:Hx}{m:Int}{mm:Ev}(s:qQ n A)(a:A[n]? =some (.lst l))(t:TL q A r k B)(x:me ρ b=.ok (.ref r) B)(u:ρ[0]? =some (rO n))(p:∀A,mm ρ A=.ok (.int m) A)(g:(k:Int)=m)(y:0<m)(J:m<1000):∃w C,zm zH me (zO j4 (zj zI (zj mm zw))) ρ b=.ok w C/\Qk q C w/\Kn n A C/\∃L,Kv QX [.int m] l=some L/\C[n]? =some (.lst L):=by
 obtain⟨o,e,d,v⟩:=t.at_;have S:=s.ext t.ext;obtain⟨j,C,E,i,K,_⟩:=YQ S u (p B) y (by lia)
 have h:j<o.length:=by lia
 have H:r≠n:=by have:=s.lt;have:=t.nw;lia
 have c:=(zM (f:=j4) (zr (zi u) (zr (p B) zF))).symm.trans E;obtain⟨L,I,D,_⟩:=U3 (f:=QX) (us:=[.int m]) (t.ext.at a) c;refine⟨o[j],C,(zE x E).trans (wH (K.kp.get e H) (ae h)),(v _ (aJ h)).mono (K.ky S),(Kn.ext s t.ext).trans K,L,I,?_⟩;rw[D];exact ar S.lt
end
def M5 {l:List W}(s:qQ n A)(h:A[n]? =some (.lst l)):∃w B,Jo [.ref n] A=.ok w B/\Jm B w/\Kn n A B/\∃L,Kv QX [.int 15] l=some L/\B[n]? =some (.lst L):=by
 unfold Jo R3;dsimp only[V1,mq];have E:∀j,ET (λB w=>gA [w] B=.ok (.bl false) B) A (qO (zj (qP (zj qB (zj jj zw))) (zj (qP (zj jj (zj qB zw))) zw))) j:=λj A _=>⟨_,_,jB (zr (kZ (zr zN (zr zN zF))) (zr (kZ (zr zN (zr zN zF))) zF)),Ext.one,Lr XS (by decide)⟩
 have e:∀j,ET (λB w=>gA [w] B=.ok (.bl false) B) A (qP (zj (qP (zj qB (zj jj zw))) (zj (qO (zj jj (zj qB zw))) zw))) j:=λj A _=>⟨_,_,kZ (zr (kZ (zr zN (zr zN zF))) (zr (jB (zr zN (zr zN zF))) zF)),Ext.one,two_N XS⟩;obtain⟨a,g,d,T⟩:=Sg (k:=8) (ρ:=[rO n,none]) (jv (Zg (m:=Yd) (λ_=>rfl)) (jv (Zg (m:=qB) (λ_=>rfl)) (jv (Zg (m:=qP zw) (w:=.tup []) (λ_=>rfl)) (jv (Zg (m:=qP (zj (qP (zj jj zw)) zw)) (w:=.tup [.tup [.int 1]]) (λ_=>rfl)) (jv (Zg (m:=qP (zj (qP (zj qB (zj jj zw))) (zj (qP (zj jj (zj qB zw))) (zj (qP (zj qB (zj qB zw))) zw)))) (w:=.tup [.tup [.int 0,.int 1],.tup [.int 1,.int 0],.tup [.int 0,.int 0]]) (λ_=>rfl))
  (jv (Zg (m:=qP (zj (qP (zj qB (zj QR zw))) (zj (qP (zj QR (zj qB zw))) zw))) (w:=.tup [.tup [.int 0,.int 2],.tup [.int 2,.int 0]]) (λ_=>rfl)) (jv (Zg (m:=qP (zj (qP (zj qB (zj jj zw))) (zj (qP (zj QR (zj qB zw))) zw))) (w:=.tup [.tup [.int 0,.int 1],.tup [.int 2,.int 0]]) (λ_=>rfl)) (jv (E _) JI))))))))
 obtain⟨r,f,c,t⟩:=Xx (k:=7) (i:=1) (ρ:=[rO n,rO a]) T (jv (Zg (m:=qP (zj (qP (zj qB (zj qB zw))) (zj (qP (zj qB (zj qB zw))) zw))) (w:=.tup [.tup [.int 0,.int 0],.tup [.int 0,.int 0]]) (λ_=>rfl)) (jv (Zg (m:=qP (zj (qP (zj qB (zj jl zw))) (zj (qP (zj jl (zj qB zw))) zw))) (w:=.tup [.tup [.int 0,.bl true],.tup [.bl true,.int 0]]) (λ_=>rfl)) (jv (e _)
  (jv (Zg (m:=qP (zj (qP (zj qB (zj jj zw))) zw)) (w:=.tup [.tup [.int 0,.int 1]]) (λ_=>rfl)) (jv (Zg (m:=zT (.str "01/10")) (λ_=>rfl)) (jv lu (jv (Zg (m:=zm JR (qP (zj (zm JR (qP (zj qB zw)) Jn) zw)) Jn) (w:=.tup (List.replicate 9 (.tup (List.replicate 9 (.int 0))))) (λ_=>rfl)) JI))))))) rfl (by lia)
 obtain⟨w,C,b,H,K,L,p,o⟩:=BY (me:=zD) (ρ:=[rO n,rO r]) (mm:=zT (.int 15)) (m:=15) s h t (zi rfl) rfl (λ_=>rfl) rfl (by decide) (by decide)
 refine⟨w,C,qM ?_,H,K,L,p,o⟩;exact(zA ((qj d).trans rfl)).trans ((zA ((qj c).trans rfl)).trans (qh (qH b)))
noncomputable def J8 (m a b:Nat):bN:=(List.range m).map λi=>(List.range m).map λj=>if i=j then 0 else if (i=a/\j=b)∨(i=b/\j=a) then 2 else 1
def gx:List (Nat×Nat×Nat):=[4,5,6,7,8].flatMap λm=>(List.range m).flatMap λa=>(List.range (m-1)).map λx=>(m,a,x)
noncomputable abbrev Zu (q:Nat×Nat×Nat):Nat:=(q.2.1+1+q.2.2)%q.1
def RK:R W->Bool
 |.ok (.tup ws) _=>qR ws|_=>false
set_option tactic.hygienic true in
def nC {f:Fn}{u:List W}(H:qR u=true)(h:RK (f u [])=true):∃ws,∀A,iso f u A=.ok (.tup ws) A:=by
 unfold RK at h
 split at h
 ·rename_i ws B e
  exact⟨ws,λA=>gI H h e⟩
 ·cases h
def ZC (q:Nat×Nat×Nat):Bool:=Vn (J8 q.1 q.2.1 (Zu q))&&RK (Pa [zp (J8 q.1 q.2.1 (Zu q))] [])
def nE:((dq 16 0 gx).take 16).all ZC=true:=by decide +kernel
def nF:((dq 16 1 gx).take 16).all ZC=true:=by decide +kernel
def nG:((dq 16 2 gx).take 16).all ZC=true:=by decide +kernel
def nI:((dq 16 3 gx).take 16).all ZC=true:=by decide +kernel
def nJ:((dq 16 4 gx).take 16).all ZC=true:=by decide +kernel
def nK:((dq 16 5 gx).take 16).all ZC=true:=by decide +kernel
def nL:((dq 16 6 gx).take 16).all ZC=true:=by decide +kernel
def nM:((dq 16 7 gx).take 16).all ZC=true:=by decide +kernel
def nN:((dq 16 8 gx).take 16).all ZC=true:=by decide +kernel
def nO:((dq 16 9 gx).take 16).all ZC=true:=by decide +kernel
def nP:gx.all ZC=true:=wJ (n:=16) (k:=0) nE (wJ nF (wJ nG (wJ nI (wJ nJ (wJ nK (wJ nL (wJ nM (wJ nN (wJ nO rfl)))))))))
def Ry:Ex:=zG (Q9 wQ QR (zm zH qg qb) ql) (zG (Q9 wQ QR (zm zH qg ql) qb) (zG (gm (mQ gT (qD 1 [] (q9 qg) (zQ 0) jl (qw (mQ gT (qa zI)))))) zS))
def Qj (m:Nat)(o:O):Hx:=[o]++((g8 m).map λr=>O.lst (r.map W.int))++[O.lst ((List.range (g8 m).length).map λi=>W.ref ([o].length+i))]
def RL (a:W):R Fl->Option O
 |.ok (.rt w) (o::_)=>if w.beq a then some o else none|_=>none
def nQ (o:O):gx.map (λq=>RL (zp (J8 q.1 q.2.1 (Zu q))) (Ry [rO 0,iV q.1,rO (q.1+1),iV q.2.1,iV (Zu q:Int)] (Qj q.1 o)))=List.replicate 160 (some o):=by kernel_rfl
def nR:(([4,5,6,7,8]:bT).all λ(m:Nat)=>VL (Ux [.int m] []) (g8 m))=true:=by kernel_rfl
def Tz (m:Nat):(g8 m).length=m:=GV
set_option tactic.hygienic true in
def nS {q:Nat×Nat×Nat}(a:q∈gx)(o:O):∃l,Ry [rO 0,iV q.1,rO (q.1+1),iV q.2.1,iV (Zu q:Int)] (Qj q.1 o)=.ok (.rt (zp (J8 q.1 q.2.1 (Zu q)))) (o::l):=by
 have h:=List.mem_map_of_mem (f:=λq=>RL (zp (J8 q.1 q.2.1 (Zu q))) (Ry [rO 0,iV q.1,rO (q.1+1),iV q.2.1,iV (Zu q:Int)] (Qj q.1 o))) a;rw[nQ o]at h;have e:=List.eq_of_mem_replicate h;unfold RL at e
 split at e
 ·rename_i w c l b
  by_cases H:w.beq (zp (J8 q.1 q.2.1 (Zu q)))=true
  ·rw[ai H]at e
   cases e;rw[W.eq_of H]at b;exact⟨l,b⟩
  ·rw[aj H]at e;cases e
 ·cases e
section
def Lh (s:qQ n A):∃t o,Yl [.ref n] A=.ok (zp t) (A.set n o)/\qQ n (A.set n o)/\qi t/\∃ws,∀B,KH [zp t] B=.ok (.tup ws) B:=by
 obtain⟨x,b,E,N,T⟩:=s;have hm:=jS E;obtain⟨r,u,e1,K,rl,s1⟩:=QA (n:=0) (A:=[.lst [.int x,.bl b]]) ⟨x,b,rfl,N,T⟩ (m:=5) (by decide) (by decide)
 obtain⟨d,rfl⟩:=aS K;have hd:d<5:=by lia
 have M:4+d∈[4,5,6,7,8]:=by
  have c:d=0∨d=1∨d=2∨d=3∨d=4:=by lia
  rcases c with rfl|rfl|rfl|rfl|rfl<;>decide
 generalize H:4+d=m at M;have Y:∀B,Yp [.int m] B=.ok (zp (g8 m)) B:=λB=>Jy rfl (cw.mp nR m M) B;have s2:qQ 0 (Qj m u):=by obtain⟨y,z,p,q⟩:=s1;exact⟨y,z,p,q⟩
 obtain⟨r2,v,e2,j,J,s3⟩:=QA s2 (m:=(m:Int)) (by lia) (by lia)
 obtain⟨a,rfl⟩:=aS j;have g:qQ 0 (Qj m v):=s3;obtain⟨r3,e,Z,h,I,s4⟩:=QA g (m:=(m:Int)-1) (by lia) (by lia)
 obtain⟨y,rfl⟩:=aS h;have S:qQ 0 (Qj m e):=s4;have D:(m,a,y)∈gx:=List.mem_flatMap.mpr ⟨m,M,List.mem_flatMap.mpr ⟨a,cj.mpr (by lia),cu.mpr ⟨y,cj.mpr (by lia),rfl⟩⟩⟩
 obtain⟨l,X⟩:=nS D e;have ht:=cw.mp nP _ D;unfold ZC at ht;rw[ak]at ht;obtain⟨h1,U⟩:=ht;have hT:=NF h1;obtain⟨C,f,p,q,L⟩:=S;have Q:e=.lst [.int C,.bl f]:=by
  have:some e=some (O.lst [.int C,.bl f]):=p
  injection this
 refine⟨J8 m a (Zu (m,a,y)),.lst [.int C,.bl f],?_,⟨C,f,ar hm,q,L⟩,hT,?_⟩
 ·refine K3 (us:=[]) (A1:=e::l) E rfl ?_ (by rw[Q];rfl) (Ze _)
  refine qM ?_;dsimp only[Ue,mq];refine(zA (ρ1:=[rO 0,iO m,none,none,none]) (A1:=[u]) ((qj ((zE zN ((zM (zr (zi rfl) (zr zN zF))).trans e1)).trans rfl)).trans ?_)).trans ?_
  ·rw[<- H]
   rfl
  refine(zA (ρ1:=[rO 0,iO m,rO (m+1),none,none]) (A1:=Qj m u) ((qj (E4 (t:=g8 m) (by rw[Tz];lia) (λr P=>?_) ((zM (zr (zi rfl) zF)).trans (Y _)))).trans ?_)).trans ?_
  ·obtain⟨i,_,rfl⟩:=cu.mp P
   rw[Tz];simp
  ·unfold Qj
   rw[Tz,add_comm]
   rfl
  refine(zA (ρ1:=[rO 0,iO m,rO (m+1),iO a,none]) (A1:=Qj m v) ((qj ((zM (zr (zi rfl) (zr (zi rfl) zF))).trans e2)).trans rfl)).trans ?_;refine(zA (ρ1:=[rO 0,iO m,rO (m+1),iO a,iV (Zu (m,a,y):Int)]) (A1:=Qj m e) ((qj ((zE ((zE ((zE (zi rfl) zN).trans rfl) ((zM (zr (zi rfl) (zr ((zE (zi rfl) zN).trans rfl) zF))).trans Z)).trans rfl) (zi rfl)).trans (JG (by lia)))).trans ?_)).trans ?_
  ·unfold Zu
   rw[Int.natCast_emod]
   rfl
  exact X
 ·exact nC (ZN _) U
variable {f:Fn}
def Dn (v:Int)(A:Hx):qo 2 (Jt f) [.int v,.int v] A=.ok (.bl true) A:=by refine qM ?_;unfold Jt;refine(zA (ρ1:=[iV v,iV v]) (A1:=A) ((jT (A1:=A) rfl).trans rfl)).trans (qh (qH ?_));exact(Z7 (A1:=A) ((zE (zi (i:=0) rfl) (zi (i:=1) rfl)).trans ((wU _ _ _).trans (by rw[ay rfl])))).trans rfl
def Mj (v:Int)(A:Hx):ZV [.int v,.int v] A=.ok (.bl true) A:=Dn v A
variable {S:List (bN)}{z v:bP}{K:Nat}{C:Hx}{a:W}
def wA.ky (k:Ky A B)(h:wA A a):wA B a:=by
 rcases h with h|⟨ty,e,hn⟩
 ·exact .inl h
 ·exact .inr ⟨ty,k _ _ e,hn⟩
def La (d:Dt t K S z)(h:wA A a):∃C,VV [zp t,a] A=.ok (.bl (wz S K a)) C/\Ext A C:=by
 have B:=d.k1;have y:=d.k8;have j:zO Yk (zj zI zw) [some (zp t),some a] A=.ok (.int K) A:=(zM (zr (zi rfl) zF)).trans ((JB d.tab _).trans (by rw[d.kd]))
 rcases h with ⟨q,rfl,o,H,i⟩|⟨ty,H,hn⟩
 ·have E:ym (zO gz (zj zD (zj (zO Yk (zj zI zw)) zw))) [some (zp t),some (.tup q)] A=.ok (.bl (!(decide (q.length=K)&&q.all yH))) A:=
   yM ((zM (zr (zi rfl) (zr j zF))).trans (OU o λx l=>let ⟨_,ty,e⟩:=H x l;⟨ty,e A⟩))
  have c:wz S K (.tup q)=((decide (q.length=K)&&q.all yH)&&(decide ((q.map vI).getD 0 0=1)&&yD S (q.map vI))):=(Bool.and_assoc ..).symm;cases f:(decide (q.length=K)&&q.all yH) with
  |false=>
   rw[f]at E c;refine⟨A,qM ?_,.refl⟩;dsimp only[KD,mq];rw[c];exact qh ((yC E).trans (qh (qH zN)))
  |true=>
   rw[f]at E c;rw[ak,ao]at f;have r:W.tup q=zo (q.map vI):=by unfold zo;rw[Rc f.2]
   have n:(q.map vI).length=K:=by rw[ag];exact f.1
   rw[r]at E c ⊢;generalize q.map vI=v at n i c E;have g:zm jQ (zm zH zD qB) jj [some (zp t),some (zo v)] A=.ok (.bl (decide (v.getD 0 0=1))) A:=(zE ((zE (zi rfl) zN).trans (wj (b:=0) (by lia))) zN).trans (wU _ _ _)
   have u:∀{x C},kP (zm jQ (zm zH zD qB) jj) (zO TV (zj (zO Gs (zj zI zw)) (zj zD zw))) [some (zp t),some (zo v)] A=.ok x C->VV [zp t,zo v] A=.ok x C:=λh=>by refine qM ?_;dsimp only[KD,mq];exact(zA ((jT E).trans qx)).trans (qh (qH h))
   rw[c,Bool.true_and];cases h1:decide (v.getD 0 0=1) with
   |false=>
    rw[h1]at g;exact⟨A,u (Qv g),.refl⟩
   |true=>
    rw[h1]at g;exact⟨_,u ((Z7 g).trans ((zM (zr ((zM (zr (zi rfl) zF)).trans (d.ks A)) (zr (zi rfl) zF))).trans (lU d.wf (by lia) y i qN))),Ext.one⟩
 ·have p:wz S K a=false:=by
   cases a with|tup q=>exfalso;unfold jq at H;cases H;exact hn rfl|_=>rfl
  have E:gz [a,.int K] A=.ok (.bl false) A:=by unfold gz Yr;refine qM ?_;dsimp only[Js,mq];exact qh (qH (Qv ((Je (zi rfl) H).trans (by rw[S7 hn]))))
  refine⟨A,qM ?_,.refl⟩;dsimp only[KD,mq];rw[p];exact qh ((yC (yM ((zM (zr (zi rfl) (zr j zF))).trans E))).trans (qh (qH zN)))
end
section
variable {m m':Ev}{xs ys:List W}{pl pu:Po}{l u:bX}{v:bP}
def TE (m:Ev)(a:En)(b:List W):Prop:=∀A,m a A=.ok (.tup b) A
def gZ (a:List W):Prop:=∀x∈a,Cw x/\(vI x).natAbs<2 ^ 256
def gZ.thg (h:gZ ws)(l:ws.length<=100)(A:Hx):wA A (.tup ws):=.inl ⟨ws,rfl,l,λx H=>(h x H).1,λi a=>by obtain⟨x,H,rfl⟩:=cu.mp a;exact(h x H).2⟩
def gZ.app (h:gZ xs)(a:gZ ys):gZ (xs++ys):=λx H=>(cy.mp H).elim (h x) (a x)
def gZ.cut (h:gZ xs):gZ (yG xs l u):=λx H=>h x (br (List.mem_of_mem_take H))
def NR (h:∀i∈v,-100<i/\i<100):gZ (v.map W.int):=λx H=>by
 obtain⟨i,a,rfl⟩:=cu.mp H;refine⟨⟨rfl,.int,λ_=>rfl⟩,?_⟩
 have:=h i a
 show i.natAbs<_;lia
def Ti:(yG xs l u).length<=xs.length:=by unfold yG;rw[bD,bE];lia
def Qz (h:TE m ρ xs)(a:TE m' ρ ys)(H:xs.length+ys.length<=1000):TE (zm qJ m m') ρ (xs++ys):=λA=>(zE (h A) (a A)).trans (UY H)
def ZH (h:TE m ρ xs)(a:∀A,pl ρ A=.ok l A)(H:∀A,pu ρ A=.ok u A):TE (Zh m pl pu) ρ (yG xs l u):=λA=>by unfold Zh;rw[h A,zJ,a,zJ,H,zJ]
def JO {D:Hx}(h:TE m ρ ws)(a:gZ ws)(H:ws.length<=100):ET wA D m ρ:=Kd h (a.thg H)
def YN {e:Ev}{k:Int}(h:∀A,e ρ A=.ok (.int k) A)(A:Hx):ku e ρ A=.ok (some k) A:=by unfold ku;rw[h,zJ]
noncomputable def J4:List W:=[.int 0,.int 1,.int (-1),.int 2,.bl true,.non,.str "1",.tup [.int 1],.int (10 ^ 29),.bl false]
def nU {w:W}(h:w∈J4):Cw w/\(vI w).natAbs<2 ^ 256:=by simp only[J4,mem_cons,bg,or_false]at h;rcases h with rfl|rfl|rfl|rfl|rfl|rfl|rfl|rfl|rfl|rfl<;>exact⟨⟨rfl,_,λ_=>rfl⟩,by decide +kernel⟩
abbrev oE:Ev:=qO (zj qB (zj jj (zj (g7 WS jj) (zj QR (zj jl (zj Yd (zj (zT (.str "1")) (zj (qP (zj jj zw)) (zj (zm Kj JY (zT (.int 29))) (zj RD zw))))))))))
def nV (A:Hx):oE ρ A=.ok (.ref A.length) (A++[.lst J4]):=jB (zr zN (zr zN (zr ((ia zN).trans rfl) (zr zN (zr zN (zr zN (zr zN (zr (kZ (zr zN zF)) (zr ((zE zN zN).trans (by kernel_rfl)) (zr zN zF))))))))))
def nW (s:qQ n A)(h1:1<=v.length)(h8:v.length<=8)(I:∀i∈v,-9<i/\i<9):∃a C,Yg [.ref n,zo v] A=.ok a C/\Qk wA C a/\Kn n A C:=by
 have lv:(v.map W.int).length=v.length:=ag _;obtain⟨p,B,e1,hp,k1,_⟩:=YQ (ρ:=[rO n,some (zo v),none,none,none,none]) (m:=((v.map W.int).length:Int)+1) (me:=zm qJ (mQ qu (qa zD)) jj) s rfl ((zE (Jb (ws:=v.map W.int) rfl) zN).trans rfl) (by lia) (by lia)
 have s1:=k1.st;obtain⟨q,C,e2,hq,k2,_⟩:=YQ (ρ:=[rO n,some (zo v),iO p,none,none,none]) (m:=10) (me:=JY) (s1.ext (Ext.one (o:=.lst J4))) rfl zN (by decide) (by decide)
 have c:q<J4.length:=by show q<10;lia
 have L:zm zH oE (zO j4 (zj zI (zj JY zw))) [rO n,some (zo v),iO p,none,none,none] B=.ok J4[q] C:=(zE (nV B) e2).trans (wH (k2.kp.get qN (by have:=s1.lt;lia)) (ae c))
 have J:=nU (aJ c);generalize J4[q]=d at L J;have kC:Kn n A C:=k1.trans ((Kn.ext s1 Ext.one).trans k2);have S:=k2.st
 let u:=v++[1]
 have j:u.length=v.length+1:=aw ..;have f:p<u.length:=by lia
 have U:∀i∈u,-9<i/\i<9:=λi g=>(cy.mp g).elim (I i) λh=>by rw[cx.mp h];lia
 have e4:zm qJ (jP (qa zD)) (qO (zj jj zw)) [rO n,some (zo v),iO p,some d,none,none] C=.ok (.ref (C.length+2)) (C++[.lst (v.map W.int)]++[.lst [.int 1]]++[.lst (u.map W.int)]):=by
  refine(zE (kf (yL (w:=zo v) (ws:=v.map W.int) (A1:=C) (zi rfl) rfl)) (jB (zr zN zF))).trans ((K1 (jx qN) qN (by rw[lv];unfold zX;show v.length+1<=_;lia)).trans ?_)
  show R.ok _ _=R.ok _ _;rw[aw,aw,aN]
  rfl
 have K:(C++[O.lst (v.map W.int)]++[O.lst [.int 1]]++[O.lst (u.map W.int)])[C.length+2]? =some (.lst (u.map W.int)):=by
  rw[show C.length+2=(C++[O.lst (v.map W.int)]++[O.lst [.int 1]]).length by simp]
  exact qN
 let y:=u.set p (0-u[p])
 have N:Q9 wQ (zm gX qB (zm zH ql qg)) ql qg [rO n,some (zo v),iO p,some d,rO (C.length+2),none] (C++[.lst (v.map W.int)]++[.lst [.int 1]]++[.lst (u.map W.int)])=.ok (.nx [rO n,some (zo v),iO p,some d,rO (C.length+2),none]) (C++[.lst (v.map W.int),.lst [.int 1],.lst (y.map W.int)]):=by
  have ex:zm gX qB (zm zH ql qg) [rO n,some (zo v),iO p,some d,rO (C.length+2),none] (C++[.lst (v.map W.int)]++[.lst [.int 1]]++[.lst (u.map W.int)])=.ok (.int (0-u[p])) (C++[.lst (v.map W.int)]++[.lst [.int 1]]++[.lst (u.map W.int)]):=(zE zN ((zE (zi rfl) (zi rfl)).trans (wH K (by rw[ax,ae f];rfl)))).trans rfl
  unfold Q9;rw[ex,zJ];refine zJ.trans (zJ.trans ?_);unfold wQ;dsimp only;rw[K];dsimp only;rw[show gu (u.map W.int).length (p:Int)=some p by unfold gu;rw[ag,ai (by lia),ai (by lia),aA]]
  dsimp only;rw[zJ,aP,aP,set_append_right _ _ (by lia),show C.length+2-C.length=2 by lia]
  show R.ok _ (_++[_,_,O.lst ((u.map W.int).set p (.int (0-u[p])))])=_;rw[<- List.map_set]
 have Y:∀i∈y,-100<i/\i<100:=λi g=>by
  rcases List.mem_or_eq_of_mem_set g with h|rfl
  ·have:=U i h;lia
  ·have:=U _ (aJ f);lia
 have hyl:y.length=v.length+1:=by rw[<- j];exact bw ..
 have X:Ext C (C++[O.lst (v.map W.int),.lst [.int 1],.lst (y.map W.int)]):=⟨_,rfl⟩;have M:(C++[O.lst (v.map W.int),.lst [.int 1],.lst (y.map W.int)])[C.length+2]? =some (.lst (y.map W.int)):=by
  rw[au (by lia),show C.length+2-C.length=2 by lia]
  rfl
 generalize hE:C++[O.lst (v.map W.int),.lst [.int 1],.lst (y.map W.int)]=E at N X M;have Q:=S.ext X;have b:gZ (v.map W.int):=NR λi g=>by have:=I i g;lia
 have oo:gZ [d]:=λx H=>by rw[cx.mp H];exact J
 have big:∀{x5:Option W},let ρ:En:=[rO n,some (zo v),iO p,some d,rO (C.length+2),x5]
   TE zD ρ (v.map W.int)/\TE (qP (zj qb zw)) ρ [d]/\(∀A,ku qg ρ A=.ok (some (p:Int)) A)/\∀A,ku (zm qJ qg jj) ρ A=.ok (some ((p:Int)+1)) A:=λ {x5}=>
  ⟨λA=>zi rfl,λA=>kZ (zr (zi rfl) zF),YN λA=>zi rfl,YN λA=>(zE (zi rfl) zN).trans rfl⟩
 have cl:∀{l u},(yG (v.map W.int) l u).length<=8:=λ {l u}=>by have:=Ti (xs:=v.map W.int) (l:=l) (u:=u);lia
 have no:∀(ρ:En)(A:Hx),Qh ρ A=.ok none A:=λ_ _=>rfl;obtain⟨r1,B1,f1,t1⟩:=Sg (A:=E) (q:=wA) (k:=2) (ρ:=[rO n,some (zo v),iO p,some d,rO (C.length+2),none]) (jv (JO (Qz (Qz (ZH big.1 (no _) big.2.2.1) big.2.1 (by have:=@cl none (some (p:Int));simp;lia)) (ZH big.1 big.2.2.2 (no _)) (by have:=@cl none (some (p:Int));have:=@cl (some ((p:Int)+1)) none;simp;lia)) ((b.cut.app oo).app b.cut) (by have:=@cl none (some (p:Int));have:=@cl (some ((p:Int)+1)) none;simp;lia))
  (jv (JO (Qz (Qz (ZH big.1 (no _) big.2.2.1) big.2.1 (by have:=@cl none (some (p:Int));simp;lia)) (ZH big.1 big.2.2.1 (no _)) (by have:=@cl none (some (p:Int));have:=@cl (some (p:Int)) none;simp;lia)) ((b.cut.app oo).app b.cut) (by have:=@cl none (some (p:Int));have:=@cl (some (p:Int)) none;simp;lia)) JI))
 obtain⟨Z,B2,f2,P⟩:=Xx (i:=5) (k:=4) (ρ:=[rO n,some (zo v),iO p,some d,rO (C.length+2),rO r1]) t1 (jv (JO (Qz (ZH big.1 (no _) big.2.2.1) (ZH big.1 big.2.2.2 (no _)) (by have:=@cl none (some (p:Int));have:=@cl (some ((p:Int)+1)) none;lia)) (b.cut.app b.cut) (by have:=@cl none (some (p:Int));have:=@cl (some ((p:Int)+1)) none;simp;lia))
  (jv (m:=jP (qa zD)) (λA _=>⟨_,_,kf (yL (w:=zo v) (ws:=v.map W.int) (A1:=A) (zi rfl) rfl),Ext.one,λB k=>.inr ⟨.lst,k _ _ XS,by decide⟩⟩)
  (jv (m:=Ll zD (g7 WS jj)) (JO (ws:=(v.map W.int).reverse) (λA=>rfl) (λx H=>b x (List.mem_reverse.mp H)) (by rw[bA];lia))
  (jv (JO (Qz (ZH big.1 big.2.2.1 (no _)) (ZH big.1 (no _) big.2.2.1) (by have:=@cl none (some (p:Int));have:=@cl (some (p:Int)) none;lia)) (b.cut.app b.cut) (by have:=@cl none (some (p:Int));have:=@cl (some (p:Int)) none;simp;lia)) JI)))) rfl (by lia)
 obtain⟨r,B3,f3,t3⟩:=Xx (i:=5) (k:=5) (ρ:=[rO n,some (zo v),iO p,some d,rO (C.length+2),rO Z]) P (jv (m:=Yd) (Kd (w:=.non) (λ_=>rfl) λB=>.inr ⟨.non,rfl,by decide⟩) (jv (m:=Vw) (λA _=>⟨.ref A.length,A++[.dct []],rfl,Ext.one,λB k=>.inr ⟨.dct,k _ _ (by unfold jq;dsimp only;rw[qN]),by decide⟩⟩) (jv (m:=qB) (Kd (w:=.int 0) (λ_=>rfl) λB=>.inr ⟨.int,rfl,by decide⟩)
  (jv (m:=qP (zj zD zw)) (JO (ws:=[zo v]) (λA=>kZ (zr (zi rfl) zF)) (λx H=>by rw[cx.mp H];exact⟨⟨Z4 v,.tup,λ_=>rfl⟩,by show(0:Int).natAbs<2 ^ 256;decide⟩) (by simp)) (jv (m:=qP zw) (JO (ws:=[]) (λA=>rfl) (λx H=>by cases H) (by simp)) JI))))) rfl (by lia)
 have t:∀A,Ext E A->mQ gT (qa (Zh ql Qh (ku (mQ qu (qa zD))))) [rO n,some (zo v),iO p,some d,rO (C.length+2),rO r] A=.ok (.tup (yG (y.map W.int) none (some ((v.map W.int).length:Int)))) (A++[.lst (yG (y.map W.int) none (some ((v.map W.int).length:Int)))]):=λA x=>by
  have ec:Zh ql Qh (ku (mQ qu (qa zD))) [rO n,some (zo v),iO p,some d,rO (C.length+2),rO r] A=.ok (.ref A.length) (A++[.lst (yG (y.map W.int) none (some ((v.map W.int).length:Int)))]):=by
   unfold Zh;rw[show ql [rO n,some (zo v),iO p,some d,rO (C.length+2),rO r] A=.ok (.ref (C.length+2)) A from zi rfl,zJ,no,zJ,YN (λA=>Jb (ws:=v.map W.int) rfl),zJ]
   dsimp only;rw[x.at M]
  exact(j0 (yL ec (by unfold zW;dsimp only;rw[qN]))).trans rfl
 obtain⟨r4,B4,f4,T⟩:=Xx (i:=5) (k:=1) (ρ:=[rO n,some (zo v),iO p,some d,rO (C.length+2),rO r]) t3 (jv (m:=mQ gT (qa (Zh ql Qh (ku (mQ qu (qa zD)))))) (λA x=>⟨_,_,t A x,Ext.one,λB _=>((NR Y).cut).thg (by have:=Ti (xs:=y.map W.int) (l:=none) (u:=some ((v.map W.int).length:Int));have e:(y.map W.int).length=y.length:=ag _;lia) B⟩) JI) rfl (by lia)
 obtain⟨w,D,f5,hw,kD⟩:=ND (mm:=zT (.int 12)) (m:=12) Q T f4 rfl (λ_=>rfl) rfl (by decide) (by decide)
 refine⟨w,D,qM ?_,hw,kC.trans ((Kn.ext S X).trans kD)⟩;dsimp only[VT,mq];refine(zA ((qj e1).trans rfl)).trans ((zA ((qj L).trans rfl)).trans ((zA ((qj e4).trans rfl)).trans ((zA N).trans ?_)));exact(zA ((qj f1).trans rfl)).trans ((zA ((qj f2).trans rfl)).trans ((zA ((qj f3).trans rfl)).trans (qh (qH f5))))
end
section
variable {K:Nat}{a b w:W}{v x:bP}{s:Str}{ty:Ty}
def nX (h:Tb t K)(a:v∈Rw t K):wz (SL t K) K (zo v)=true:=by
 have g:=h.w a;have e:(v.map W.int).map vI=v:=by rw[aW];exact List.map_id' _
 show(decide ((v.map W.int).length=K)&&((v.map W.int).all yH&&(decide (((v.map W.int).map vI).getD 0 0=1)&&yD (SL t K) ((v.map W.int).map vI))))=true;rw[e,ag,ay g.l,ay g.o,(GY h.d.wf.l g.l).mpr g.f,cw.mpr λx H=>by obtain⟨i,_,rfl⟩:=cu.mp H;rfl]
 rfl
def nY (h:Tb t K)(H:v∈Rw t K)(A:Hx):wA A (zo v):=by have g:=h.w H;have b:=h.d.k8;exact NO (by have:=g.l;lia) (Nd λi a=>by have:=g.sm h.d.zs i a;lia)
def Rm (h:Tb t K)(H:v∈Rw t K)(A:Hx):∃C,VY [zp t,zo v] A=.ok .non C/\Ext A C:=by obtain⟨C,e,x⟩:=La h.d (nY h H A);rw[nX h H]at e;refine⟨C,Xd (ρ:=[some (zp t),some (zo v)]) ?_,x⟩;dsimp only[Ge];exact(zA ((jT (Zf (yM (k:=true) ((zM (zr (zi rfl) (zr (zi rfl) zF))).trans e)))).trans qx)).trans qx
def LA (h:Tb t K)(H:wA A a)(f:wz (SL t K) K a=false):∃C,VY [zp t,a] A=.exc "NoWeights" C/\Ext A C:=by obtain⟨C,e,x⟩:=La h.d H;rw[f]at e;refine⟨C,Z1 ?_,x⟩;dsimp only[Ge];exact wX ((yC (Zf (yM (k:=false) ((zM (zr (zi rfl) (zr (zi rfl) zF))).trans e)))).trans (wX rfl))
abbrev QS (K:Nat)(B:Hx)(w:W):Prop:=gz [w,.int K] B=.ok (.bl false) B
def nZ (H:ws.length<=100)(c:∀x∈ws,∃ty,jq x B=some ty)(h:(decide (ws.length=K)&&ws.all yH)=false):QS K B (.tup ws):=(OU H c).trans (by rw[h])
def XW (h:jq w A=some ty)(H:ty≠.tup):Qk (QS K) A w:=λB k=>by have h:=k _ _ h;unfold QS gz Yr;refine qM ?_;dsimp only[Js,mq];exact qh (qH (Qv ((Je (zi rfl) h).trans (by rw[S7 H]))))
def n0 (h:Tb t K)(H:x.length=K)(A:Hx):V8 [zp t,zo x] A=.ok .non A:=by have a:=h.d.k8;refine Xd (ρ:=[some (zp t),some (zo x)]) ?_;dsimp only[Gq];exact(zA ((jT (Zf (yM (k:=true) ((zM (zr (zi rfl) (zr ((zM (zr (zi rfl) zF)).trans (JB h.d.tab A)) zF))).trans (by rw[h.d.kd,<- H];exact C8 (by lia) A))))).trans qx)).trans qx
def n4 (h:Tb t K)(H:Qk (QS K) A b):V8 [zp t,b] A=.exc "NoMix" A:=by refine Z1 ?_;dsimp only[Gq];exact wX ((yC (Zf (yM (k:=false) ((zM (zr (zi rfl) (zr ((zM (zr (zi rfl) zF)).trans (JB h.d.tab A)) zF))).trans (by rw[h.d.kd];exact H A λ_ _ z=>z))))).trans (wX rfl))
def WO (h:Tb t K)(A:Hx):ZU [zp t] A=.ok .non A:=lK h.d.tab h.d.kd h.d.sd A
def n6 (h:Tb t K)(H:v∈Rw t K)(A:Hx):Yu [zp t,zo v] A=.ok (.int (Kw t.length K (yo t K) v)) A:=by
 obtain⟨C,e,_⟩:=Rm h H [];refine gI (A1:=C) (by show((zp t).nr&&((zo v).nr&&true))=true;rw[Ze,Z4];rfl) rfl (Zf (Nx ?_))
 dsimp only[KO];exact(zA (kj ((zM (zr (zi rfl) zF)).trans (WO h [])))).trans ((zA (kj ((zM (zr (zi rfl) (zr (zi rfl) zF))).trans e))).trans (Zf (qh (qH ((zM (zr (zi rfl) (zr (zi rfl) zF))).trans (NX h.d (h.w H) C).1)))))
def n9 (h:Tb t K)(H:wA A a)(f:wz (SL t K) K a=false):∃C,wV [zp t,a] A=.exc "NoWeights" C/\Ext A C:=by obtain⟨C,e,x⟩:=LA h H f;refine⟨C,Z1 ?_,x⟩;dsimp only[KO];exact(zA (kj ((zM (zr (zi rfl) zF)).trans (WO h A)))).trans (wX (YV ((zM (zr (zi rfl) (zr (zi rfl) zF))).trans e)))
def og (h:ZU [w] A=.exc s A1):wV [w,a] A=.exc s A1:=by refine Z1 ?_;dsimp only[KO];exact wX (YV ((zM (zr (zi rfl) zF)).trans h))
def wv (K:Nat)(w x:bP):Int:=sm K λk=>w.getD k 0 * x.getD k 0
def oh (c:v.length=K)(a:x.length=K)(b:K<=8)(H:∀i∈v,-9<i/\i<9)(A:Hx):Nt [zo v,zo x] A=.ok (.int (wv K v x)) A:=by
 refine gI (A1:=[]) (by show((zo v).nr&&((zo x).nr&&true))=true;rw[Z4,Z4];rfl) rfl (qM ?_)
 dsimp only[U8,mq];have E:=P2 (A:=[]) (cap:=[]) (ρ:=[some (zo v),some (zo x)]) (me:=zm qE zI zD) (mi:=Zj zI zD) (N:=K) (u:=λk=>.int (v.getD k 0)) (v:=λk=>.int (x.getD k 0)) (g:=λk=>.int (v.getD k 0 * x.getD k 0)) (OM (us:=v.map W.int) (vs:=x.map W.int) (zi rfl) (zi rfl)) (by show(v.map W.int).length=K;rw[ag,c]) (by lia)
  (λk h=>by show some (zip2 (v.map W.int)[k]? (x.map W.int)[k]?)=_;rw[int_at (by lia),int_at (by lia)];rfl)
  (by show some (zip2 (v.map W.int)[K]? (x.map W.int)[K]?)=_;rw[aD (by rw[ag];lia)];rfl)
  (λk h=>by
   have:=H _ (getD_mem (w:=v) (k:=k) (by lia))
   exact(zE (zi rfl) (zi rfl)).trans yN)
 have e:((List.range K).map λk=>W.int (v.getD k 0 * x.getD k 0))=((List.range K).map λk=>v.getD k 0 * x.getD k 0).map W.int:=by rw[aW];rfl
 rw[e]at E;exact qh (qH ((j0 E).trans (Xc _)))
def oj (h:Tb t K)(a:v∈Rw t K)(H:x.length=K)(A:Hx):Yx [zp t,zo v,zo x] A=.ok (.int (wv K v x)) A:=by
 obtain⟨C,e,_⟩:=Rm h a [];have g:=h.w a;refine gI (A1:=C) (by show((zp t).nr&&((zo v).nr&&((zo x).nr&&true)))=true;rw[Ze,Z4,Z4];rfl) rfl (Zf (Nx ?_))
 dsimp only[Yv];exact(zA (kj ((zM (zr (zi rfl) zF)).trans (WO h [])))).trans ((zA (kj ((zM (zr (zi rfl) (zr (zi rfl) zF))).trans e))).trans ((zA (kj ((zM (zr (zi rfl) (zr (zi rfl) zF))).trans (n0 h H C)))).trans (Zf (qh (qH ((zM (zr (zi rfl) (zr (zi rfl) zF))).trans (oh g.l H h.d.k8 (g.sm h.d.zs) C)))))))
def om (h:Tb t K)(H:wA A a)(f:wz (SL t K) K a=false):∃C,wF [zp t,a,b] A=.exc "NoWeights" C/\Ext A C:=by obtain⟨C,e,x⟩:=LA h H f;refine⟨C,Z1 ?_,x⟩;dsimp only[Yv];exact(zA (kj ((zM (zr (zi rfl) zF)).trans (WO h A)))).trans (wX (YV ((zM (zr (zi rfl) (zr (zi rfl) zF))).trans e)))
def ot (h:Tb t K)(H:v∈Rw t K)(a:Qk (QS K) A b):∃C,wF [zp t,zo v,b] A=.exc "NoMix" C/\Ext A C:=by obtain⟨C,e,x⟩:=Rm h H A;refine⟨C,Z1 ?_,x⟩;dsimp only[Yv];exact(zA (kj ((zM (zr (zi rfl) zF)).trans (WO h A)))).trans ((zA (kj ((zM (zr (zi rfl) (zr (zi rfl) zF))).trans e))).trans (wX (YV ((zM (zr (zi rfl) (zr (zi rfl) zF))).trans (n4 h (a.mono x.ky))))))
def ou (h:ZU [w] A=.exc s A1):wF [w,a,b] A=.exc s A1:=by refine Z1 ?_;dsimp only[Yv];exact wX (YV ((zM (zr (zi rfl) zF)).trans h))
end
section
variable {K κ:Nat}{D:Hx}{T b w:W}{v x:bP}{m:Ev}{x4 x5 x6 x7 x8 x9 x10 x11:Option W}
def ox:yG ws (some 1) none=ws.drop 1:=by
 unfold yG;cases ws with
 |nil=>rfl|cons v r=>
  have H:HT.qk (v::r).length 0 (some 1)=1:=by unfold HT.qk;simp
  have h:HT.qk (v::r).length (v::r).length none=(v::r).length:=rfl;rw[H,h];exact bz (by simp)
def Sw (h:TE m ρ ws)(l:ws.length<=100)(c:∀x∈ws,∃ty,jq x D=some ty)(n:(decide (ws.length=K)&&ws.all yH)=false):ET (QS K) D m ρ:=λA x=>⟨_,A,h A,.refl,λB k=>nZ l (λy H=>let ⟨ty,e⟩:=c y H;⟨ty,k _ _ (x.ky _ _ e)⟩) n⟩
noncomputable def KA (r:Nat):List W:=[.bl true,.non,.str "1",.tup [.int 1],.ref r,.bl false]
def Bs (s:qQ n A)(h1:1<=x.length)(Q:x.length<=8):∃b C,Yi [.ref n,zo x] A=.ok b C/\Qk (QS x.length) C b/\Kn n A C:=by
 have L:(x.map W.int).length=x.length:=ag _;obtain⟨p,B,v,P,k1,_⟩:=YQ (ρ:=[rO n,some (zo x),none,none,none]) (m:=((x.map W.int).length:Int)) (me:=mQ qu (qa zD)) s rfl (Jb (ws:=x.map W.int) rfl) (by lia) (by lia)
 have Y:=k1.st;have X:Ext B (B++[O.lst [.int 1]]++[.lst (KA B.length)]):=Ext.one.app;obtain⟨q,C,t,N,Z,_⟩:=YQ (ρ:=[rO n,some (zo x),iO p,none,none]) (m:=6) (me:=zT (.int 6)) (Y.ext X) rfl zN (by decide) (by decide)
 have f:Kn n A C:=k1.trans ((Kn.ext Y X).trans Z);have S:=Z.st;have a:q<(KA B.length).length:=by show q<6;lia
 have g:∀o∈KA B.length,yH o=false/\∃ty,jq o C=some ty:=λo h=>by
  simp only[KA,mem_cons,bg,or_false]at h;rcases h with rfl|rfl|rfl|rfl|rfl|rfl
  ·exact⟨rfl,_,rfl⟩
  ·exact⟨rfl,_,rfl⟩
  ·exact⟨rfl,_,rfl⟩
  ·exact⟨rfl,_,rfl⟩
  ·exact⟨rfl,.lst,Z.ky (Y.ext X) _ _ (by unfold jq;dsimp only;rw[jx qN])⟩
  ·exact⟨rfl,_,rfl⟩
 have E:zm zH (qO (zj jl (zj Yd (zj (zT (.str "1")) (zj (qP (zj jj zw)) (zj (qO (zj jj zw)) (zj RD zw))))))) (zO j4 (zj zI (zj (zT (.int 6)) zw))) [rO n,some (zo x),iO p,none,none] B=.ok (KA B.length)[q] C:=
  (zE (jB (zr zN (zr zN (zr zN (zr (kZ (zr zN zF)) (zr (jB (zr zN zF)) (zr zN zF))))))) t).trans (wH (Z.kp.get qN (by have:=Y.lt;rw[aw];lia)) (ae a))
 obtain⟨e,ty,ht⟩:=g _ (aJ a);generalize (KA B.length)[q]=d at E e ht
 let U:En:=[rO n,some (zo x),iO p,some d,none]
 have c:TE zD U (x.map W.int):=λA=>zi rfl;have M:TE (qP (zj qb zw)) U [d]:=λA=>kZ (zr (zi rfl) zF);have J:∀A,ku qg U A=.ok (some (p:Int)) A:=YN λA=>zi rfl;have I:∀A,ku (zm qJ qg jj) U A=.ok (some ((p:Int)+1)) A:=YN λA=>(zE (zi rfl) zN).trans rfl;have no:∀(U:En)(A:Hx),Qh U A=.ok none A:=λ_ _=>rfl;have cl:∀{l u},(yG (x.map W.int) l u).length<=8:=λ {l u}=>by have:=Ti (xs:=x.map W.int) (l:=l) (u:=u);lia
 have ci:∀{l u},∀y∈yG (x.map W.int) l u,∃ty,jq y C=some ty:=λ {l u} y H=>by obtain⟨i,_,rfl⟩:=cu.mp (br (List.mem_of_mem_take H));exact⟨.int,rfl⟩
 have mi:∀y∈x.map W.int,∃ty,jq y C=some ty:=λy H=>by obtain⟨i,_,rfl⟩:=cu.mp H;exact⟨.int,rfl⟩
 obtain⟨r,T,f1,t1⟩:=Sg (A:=C) (q:=QS x.length) (k:=7) (ρ:=U) (jv (Sw (Qz (Qz (ZH c (no _) J) M (by have:=@cl none (some (p:Int));simp;lia)) (ZH c I (no _)) (by have:=@cl none (some (p:Int));have:=@cl (some ((p:Int)+1)) none;simp;lia)) (by have:=@cl none (some (p:Int));have:=@cl (some ((p:Int)+1)) none;simp;lia) (λy H=>by
   rcases cy.mp H with H|H
   ·rcases cy.mp H with H|H
    ·exact ci y H
    ·rw[cx.mp H];exact⟨ty,ht⟩
   ·exact ci y H) (by rw[all_append,all_append,bL,e];simp))
  (jv (Sw (Qz c (ys:=[.int 1]) (λA=>kZ (zr zN zF)) (by rw[L];simp;lia)) (by rw[aw,L];simp;lia) (λy H=>by
   rcases cy.mp H with H|H
   ·exact mi y H
   ·rw[cx.mp H];exact⟨.int,rfl⟩) (by rw[aw,L,aG (by simp),Bool.false_and]))
  (jv (Sw (ZH c (l:=some 1) (YN λA=>zN) (no _)) (by have:=@cl (some 1) none;lia) ci (by rw[ox,bE,L,aG (by lia),Bool.false_and]))
  (jv (m:=jP (qa zD)) (λA _=>⟨_,_,kf (yL (w:=zo x) (ws:=x.map W.int) (A1:=A) (zi rfl) rfl),Ext.one,XW (ty:=.lst) XS (by decide)⟩)
  (jv (m:=Yd) (Kd (w:=.non) (λ_=>rfl) λB=>XW (ty:=.non) (A:=B) rfl (by decide) B λ_ _ z=>z) (jv (m:=Vw) (λA _=>⟨.ref A.length,A++[.dct []],rfl,Ext.one,XW (ty:=.dct) (by unfold jq;dsimp only;rw[qN]) (by decide)⟩) (jv (m:=qB) (Kd (w:=.int 0) (λ_=>rfl) λB=>XW (ty:=.int) (A:=B) rfl (by decide) B λ_ _ z=>z) JI)))))))
 obtain⟨w,D,j,hw,K⟩:=ND (me:=ql) (ρ:=[rO n,some (zo x),iO p,some d,rO r]) (mm:=zT (.int 7)) (m:=7) S t1 (zi rfl) rfl (λ_=>rfl) rfl (by decide) (by decide)
 refine⟨w,D,qM ?_,hw,f.trans K⟩;dsimp only[Uc,mq];exact(zA ((qj v).trans rfl)).trans ((zA ((qj E).trans rfl)).trans ((zA ((qj f1).trans rfl)).trans (qh (qH j))))
abbrev fv (a n:Nat)(T:W)(g f e d c b X x:Option W):En:=[rO 0,iO a,rO n,some T,g,f,e,d,c,b,X,x]
abbrev MB:Ex:=zG (qA 6 (qO (zj (zm gX (zO j4 (zj qg (zj Jn zw))) W4) (zj (zO j4 (zj qg (zj (zm Kj JY Jn) zw))) zw)))) (zG (qA 4 (zm qJ ql (qP (zj (zm zH kU (zO j4 (zj qg (zj QR zw)))) zw)))) zS)
def oy (s:qQ n A)(H:x.length<8):∃i y6 C,MB (fv κ n T (some (zo x)) x5 x6 x7 x8 x9 x10 x11) A=.ok (.nx (fv κ n T (some (zo (x++[i]))) x5 y6 x7 x8 x9 x10 x11)) C/\Kn n A C:=by
 obtain⟨p,B,b,f,j,_⟩:=Xy s (m:=9) (by decide) (by decide)
 obtain⟨q,C,a,d,K,_⟩:=Xy j.st (m:=1000000000) (by decide) (by decide)
 have e:qO (zj (zm gX (zO j4 (zj qg (zj Jn zw))) W4) (zj (zO j4 (zj qg (zj (zm Kj JY Jn) zw))) zw)) (fv κ n T (some (zo x)) x5 x6 x7 x8 x9 x10 x11) A=.ok (.ref C.length) (C++[.lst ([(p:Int)-4,(q:Int)].map W.int)]):=
  jB (zr ((zE ((zM (zr (zi rfl) (zr zN zF))).trans b) zN).trans rfl) (zr ((zM (zr (zi rfl) (zr (A1:=B) (A2:=B) ((zE zN zN).trans (by kernel_rfl)) zF))).trans a) zF))
 have S:=K.st.ext (Ext.one (o:=.lst ([(p:Int)-4,(q:Int)].map W.int)));obtain⟨r,D,E,c,g,_⟩:=Xy S (m:=2) (by decide) (by decide)
 have h:r < [(p:Int)-4,(q:Int)].length:=by show r<2;lia
 refine⟨[(p:Int)-4,(q:Int)][r],rO C.length,D,?_,j.trans (K.trans ((Kn.ext K.st Ext.one).trans g))⟩;refine(zA ((qj e).trans rfl)).trans ((zA (qj ((zE (zi rfl) (kZ (zr ((zE (zi rfl) ((zM (zr (zi rfl) (zr zN zF))).trans E)).trans (wH (g.kp.get qN (by have:=K.st.lt;lia)) (by rw[ax,ae h];rfl))) zF))).trans (UY (by rw[ag];simp;lia))))).trans (qx.trans ?_))
 show R.ok (Fl.nx (fv κ n T (some (.tup (x.map W.int++[W.int [(p:Int)-4,(q:Int)][r]]))) x5 (rO C.length) x7 x8 x9 x10 x11)) D=_;unfold zo;rw[aN]
 rfl
def oz (h:Tb t K)(s:qQ n A):∃(x:bP) (Y y:Option W) (B:Hx),x.length=K/\jM (jU (zO QV (zj qb zw))) (zQ 5) MB (fv κ n (zp t) (some (.tup [])) x5 x6 x7 x8 x9 x10 x11) A=.ok (.nx (fv κ n (zp t) (some (zo x)) Y y x7 x8 x9 x10 x11)) B/\Kn n A B:=by
 have o:=h.d.k8;have E:zO QV (zj qb zw) (fv κ n (zp t) (some (.tup [])) x5 x6 x7 x8 x9 x10 x11) A=.ok (.int (K:Int)) A:=(zM (zr (zi rfl) zF)).trans ((Gx h.d.tab A).trans (by rw[h.d.kd]))
 obtain⟨c,B,e,a,x,Y,y,b,rfl⟩:=yK (j:=jE 0 K) (st:=turn (zQ 5) MB) (N:=K) (I:=λk l B=>Kn n A B/\∃x Y y,x.length=k/\l=fv κ n (zp t) (some (zo x)) Y y x7 x8 x9 x10 x11)
  (λk l B g ⟨a,x,Y,y,b,H⟩=>by
   subst H;obtain⟨i,Z,C,e,f⟩:=oy (κ:=κ) (T:=zp t) (x:=x) (x5:=iV (0+(k:Int))) (x6:=y) (x7:=x7) (x8:=x8) (x9:=x9) (x10:=x10) (x11:=x11) a.st (by lia)
   exact⟨_,_,C,yh g,(jY rfl).trans e,a.trans f,_,_,_,by rw[aw,b];rfl,rfl⟩)
  (λl B _=>yf (by lia)) K 0 (fv κ n (zp t) (some (.tup [])) x5 x6 x7 x8 x9 x10 x11) A (by lia) ⟨⟨Kp.refl,s⟩,[],_,_,rfl,rfl⟩
 exact⟨x,Y,y,B,b,(jC (yS (k:=(K:Int)) E (QY (by lia)))).trans e,a⟩
abbrev DB:Ex:=zG (qA 8 (zm qJ Jk (zm qE (zm zH wC jX) (zm zH ql jX)))) zS
def oA (f:v.length=K)(b:x.length=K)(l:K<=8)(d:∀i∈v,-9<i/\i<9):∃y5,jM (jU (mQ qu (qa ql))) (zQ 5) DB (fv κ n T (some (zo x)) x5 x6 (some (zo v)) (iV 0) x9 x10 x11) A=.ok (.nx (fv κ n T (some (zo x)) y5 x6 (some (zo v)) (iV (wv K v x)) x9 x10 x11)) A:=by
 have E:mQ qu (qa ql) (fv κ n T (some (zo x)) x5 x6 (some (zo v)) (iV 0) x9 x10 x11) A=.ok (.int (K:Int)) A:=(Jb (ws:=x.map W.int) rfl).trans (by rw[ag,b])
 obtain⟨a,B,e,H,y5,rfl⟩:=yK (j:=jE 0 K) (st:=turn (zQ 5) DB) (N:=K) (I:=λk g B=>A=B/\∃y5,g=fv κ n T (some (zo x)) y5 x6 (some (zo v)) (iV (sm k λk=>v.getD k 0 * x.getD k 0)) x9 x10 x11)
  (λk g B c ⟨H,y5,h⟩=>by
   subst H h
   have:=d _ (getD_mem (w:=v) (k:=k) (by lia))
   refine⟨_,_,A,yh c,(jY (ρ1:=fv κ n T (some (zo x)) (iO k) x6 (some (zo v)) (iV (sm k λk=>v.getD k 0 * x.getD k 0)) x9 x10 x11) (by rw[Int.zero_add];rfl)).trans ((zA ((qj ((zE (zi rfl) ((zE ((zE (zi rfl) (zi rfl)).trans wj) ((zE (zi rfl) (zi rfl)).trans wj)).trans yN)).trans rfl)).trans rfl)).trans qx),rfl,iO k,?_⟩
   rw[wI]
   rfl)
  (λg B _=>yf (by lia)) K 0 (fv κ n T (some (zo x)) x5 x6 (some (zo v)) (iV 0) x9 x10 x11) A (by lia) ⟨rfl,_,rfl⟩
 subst H;exact⟨y5,(jC (yS (k:=(K:Int)) E (QY (by lia)))).trans e⟩
end
section
variable {w a b c d:W}{Pu:Addr}
abbrev L0:Lm:=Q5 wV wF
abbrev L1:Lm:=JC wV wF
abbrev gp:Fn:=Ya 1 L0.m L1.m
abbrev T0 (P:Obj->Addr->Obj->List V->Prop):Lm:=K9 wV wF P gp
abbrev T1 (P:Obj->Addr->Obj->List V->Prop):Lm:=Wa wV wF P gp
noncomputable abbrev Zr (P:Obj->Addr->Obj->List V->Prop)(a b c:W):List W:=[.clo 0 [a] P,.clo 0 [.non,b,c] P]
def oB {y:W}(H:ZU [w] A=.exc x A1)(h:y∈Zr PK a b c):Qt 0 PK gp (zj zD zw) [some y,some w] A=.exc x A1:=by
 have go:∀d,gp ([w]++d) A=.exc x A1->Qt 0 PK gp (zj zD zw) [some (.clo 0 d PK),some w] A=.exc x A1:=λd e=>by
  refine Eq.trans (b:=zO (λu=>gp (u++d)) (zj zD zw) [some (.clo 0 d PK),some w] A) (by unfold Qt;exact ai rfl) ?_
  exact(zM (f:=λu=>gp (u++d)) (ρ:=[some (.clo 0 d PK),some w]) (zr (zi (i:=1) rfl) zF)).trans e
 simp only[Zr,mem_cons,bg,or_false]at h;rcases h with rfl|rfl
 ·refine go _ ((ai rfl).trans ?_)
  exact(zM (f:=wV) (ρ:=[some w,some a]) (zr (zi (i:=0) rfl) (zr (zi (i:=1) rfl) zF))).trans (og H)
 ·refine go _ ((aj (by show ¬(4:Nat)=1+1;decide)).trans ?_)
  exact(zM (f:=wF) (ρ:=[some w,some b,some c]) (zr (zi (i:=0) rfl) (zr (zi (i:=1) rfl) (zr (zi (i:=2) rfl) zF)))).trans (ou H)
def Me (A:Hx)(g:Nat):(A++GX g).length=A.length+12:=by rw[aw];rfl
def oC {t:Lm}{r g:Nat}(p:t.idx=[0,1])(T:t.m=Qt 0 PK gp (zj zD zw))(l:A[2]? =some (.tab yZ Pu))(h:A[r]? =some (.lst (Zr PK a b c)))(u:ρ[1]? =some (rO r))(f:ρ[i]? =some (some w))(d:∀B,Ext A B->ZU [w] B=.exc x B)(j:wm x=some g):
  jP (qD 1 [i] (q9 zD) (zQ 0) jl (qw (kL 2 yZ Pu t.idx (RG t 0)))) ρ A=.ok (.ref (A++GX g++GX g).length) (A++GX g++GX g++[.lst [.ref (A.length+11),.ref (A.length+23)]]):=by
 refine kf ?_;unfold qD;rw[lx (zi u) h,zJ];have e:∀y∈Zr PK a b c,∀B,Ext A B->kL 2 yZ Pu t.idx (RG t 0) [some y,some w] B=.ok (.ref (B.length+11)) (B++GX g):=λy H B x=>NN (x.at l) (ws:=[y,w]) (by rw[p];rfl) (by rw[T];exact oB (d B x) H) j
 have q:QC 1 [i] ρ=[none,some w]:=by
  unfold QC;rw[List.map_singleton,f]
  rfl
 rw[q];have X:Ext A (A++GX g):=⟨_,rfl⟩;have o:Ext A (A++GX g++GX g):=X.trans ⟨_,rfl⟩;have go:qZ ⟨λA i=>(zW (.ref r) A).map λn=>n[i]?,2⟩ (zQ 0) jl (qw (kL 2 yZ Pu t.idx (RG t 0))) 2 0 [none,some w] [] A=.ok ([some (.clo 0 [.non,b,c] PK),some w],[.ref (A.length+11),.ref ((A++GX g).length+11)]) (A++GX g++GX g):=by
  refine(Ou (w:=.clo 0 [a] PK) ((Rb h).trans rfl) (e _ (by simp) _ .refl) (by simp[zX])).trans ?_
  refine(Ou (w:=.clo 0 [.non,b,c] PK) ((Rb (X.at h)).trans rfl) (e _ (by simp) _ X) (by simp[zX])).trans (Dy ?_)
  exact(Rb (o.at h)).trans rfl
 rw[Me]at go;show R.bind (R.nox (qZ ⟨λA i=>(zW (.ref r) A).map λn=>n[i]?,2⟩ (zQ 0) jl (qw (kL 2 yZ Pu t.idx (RG t 0))) 2 0 [none,some w] [] A)) _=_;rw[go]
 rfl
noncomputable abbrev d2 (g:Nat):PyData:=.list [.list [.int g],.list [.int g]]
def oD {a b:W}{d:PyData}(c:qC A 8 a=some d)(H:qC A 8 b=some d)(h:PyData.eqv d d=true):jQ a b A=.ok (.bl true) A:=by
 show gi false a b A=_;unfold gi;rw[c,H];dsimp only;rw[h]
 rfl
def oF {g r:Nat}(h:A[r]? =some (.lst (Zr PK a b c)))(H:ρ[1]? =some (rO r)):zm qE (qO (zj (qO (zj (zT (.int g)) zw)) zw)) (mQ qu (qa zD)) ρ A=.ok (.ref (A.length+2)) (A++[.lst [.int g]]++[.lst [.ref A.length]]++[.lst [.ref A.length,.ref A.length]]):=by
 have E:=jB (zr (jB (zr (zN (w:=.int g) (ρ:=ρ) (A:=A)) zF)) zF);have e:=YM (i:=1) H (Ext.at (A':=A++[O.lst [.int g]]++[O.lst [.ref A.length]]) ⟨_,aP ..⟩ h);refine(zE E e).trans ?_;unfold qE;dsimp only;rw[qN];dsimp only;rw[ai (by show(jG 2&&decide (1 * 2<=zX))=true;decide)]
 simp
def Mk {t:Lm}{r g:Nat}(I:t.idx=[0,1])(T:t.m=Qt 0 PK gp (zj zD zw))(q:A[2]? =some (.tab yZ Pu))(e:A[r]? =some (.lst (Zr PK a b c)))(D:ρ[1]? =some (rO r))(n:ρ[i]? =some (some w))(l:∀B,Ext A B->ZU [w] B=.exc x B)(o:wm x=some g):
  ∃a b C,Ext A C/\qC C 8 a=some (d2 g)/\qC C 8 b=some (d2 g)/\∀f,zm f (jP (qD 1 [i] (q9 zD) (zQ 0) jl (qw (kL 2 yZ Pu t.idx (RG t 0))))) (zm qE (qO (zj (qO (zj (zT (.int g)) zw)) zw)) (mQ qu (qa zD))) ρ A=f a b C:=by
 have E:=oC I T q e D n l o;have y:Ext (A++GX g) (A++GX g++GX g):=⟨_,rfl⟩;have d:Ext A (A++GX g++GX g++[O.lst [.ref (A.length+11),.ref (A.length+23)]]):=(Ext.trans ⟨_,rfl⟩ y).app;have P:(A++GX g++GX g++[O.lst [.ref (A.length+11),.ref (A.length+23)]])[A.length+11]? =some (.lst [.int g]):=jx (y.at (Ra A g));have p:(A++GX g++GX g++[O.lst [.ref (A.length+11),.ref (A.length+23)]])[A.length+23]? =some (.lst [.int g]):=jx (by have:=Ra (A++GX g) g;rwa[Me]at this)
 have h:(A++GX g++GX g++[O.lst [.ref (A.length+11),.ref (A.length+23)]])[(A++GX g++GX g).length]? =some (.lst [.ref (A.length+11),.ref (A.length+23)]):=qN;generalize v:A++GX g++GX g++[O.lst [.ref (A.length+11),.ref (A.length+23)]]=B at E d P p h;have u:=oF (g:=g) (ρ:=ρ) (d.at e) D;have X:Ext B (B++[O.lst [.int g]]++[O.lst [.ref B.length]]++[O.lst [.ref B.length,.ref B.length]]):=Ext.one.app.app;have j:(B++[O.lst [.int g]]++[O.lst [.ref B.length]]++[O.lst [.ref B.length,.ref B.length]])[B.length]? =some (.lst [.int g]):=jx (jx qN);have H:(B++[O.lst [.int g]]++[O.lst [.ref B.length]]++[O.lst [.ref B.length,.ref B.length]])[B.length+2]? =some (.lst [.ref B.length,.ref B.length]):=by
  rw[show B.length+2=(B++[O.lst [.int g]]++[O.lst [.ref B.length]]).length by simp]
  exact qN
 refine⟨_,_,_,d.trans X,?_,?_,λf=>zE E u⟩
 ·exact OW (k:=7) (X.at h) (GP (YT (X.at P)) (GP (YT (X.at p)) rfl))
 ·exact OW (k:=7) H (GP (YT j) (GP (YT j) rfl))
def Vs (P:Addr)(p:Obj->Addr->Obj->List V->Prop):Fn:=qo 4 (VR Jo Yl wV wF p gp RG P)
def oG {r:Nat}{d:Hx}{o:O}(y:Jo [.ref n] A=.ok w d)(U:Jm d w)(M:Kn n A d)(E:Yl [.ref n] d=.ok (zp t) (d.set n o))(S:qQ n (d.set n o))(Q:qi t)(j:∀B,KH [zp t] B=.ok (.tup ws) B)
  (H:A[2]? =some (.tab yZ Pu))(N:2<n)(h:A[r]? =some (.lst (Zr PK a b c)))(nr:r≠n):∃D,Vs Pu PK [.ref n,.ref r] A=.ok (.bl true) D/\Ext (d.set n o) D:=by
 have L:Kn n d (d.set n o):=⟨Kp.set,S⟩;have P:Jm (d.set n o) w:=U.mono (L.ky M.st);have K:=M.trans L;generalize l:d.set n o=f at E S L P K;have T:f[2]? =some (.tab yZ Pu):=by rw[K.kp.at_ 2 (jS H) (by lia)];exact H
 have e:f[r]? =some (.lst (Zr PK a b c)):=by rw[K.kp.at_ r (jS h) nr];exact h
 obtain⟨_,_,C,X,c1,J,q⟩:=Mk (t:=T0 PK) (i:=2) (ρ:=[rO n,rO r,some w,some (zp t)]) rfl rfl T e rfl rfl (λB x=>lL (P.mono x.ky)) Ec;have v:=(q ju).trans (Lv c1 J (by decide +kernel))
 obtain⟨_,_,D,g,I,d2,p⟩:=Mk (t:=T1 PK) (i:=3) (ρ:=[rO n,rO r,some w,some (zp t)]) rfl rfl (X.at T) (X.at e) rfl rfl (λB _=>lM Q (j B)) Hl;have u:=(p jQ).trans (oD I d2 (by decide +kernel))
 refine⟨D,qM ?_,X.trans g⟩;unfold VR;exact(zA (Xq (kZ (zr ((zM (zr (zi rfl) zF)).trans y) (zr ((zM (zr (zi rfl) zF)).trans E) zF))) rfl)).trans ((zA ((jT v).trans qx)).trans (qh (qH u)))
end
section
variable {w b:W}{Pu:Addr}{l l3 us vs:List W}
def W3 (l:List W):Option (List W):=(Kv QX [.int 15] l).bind (Kv Gn [])
def NC (P:Addr)(n:Nat)(u v:List W)(A:Hx):Prop:=2<n/\qQ n A/\A[2]? =some (.tab yZ P)/\∃a b c,u=[a]/\v=[b,c]
open Classical in
def NT (P:Addr):W->List W->List W->Hx->R W:=λw u v A=>match w with
 |.ref n=>(match A[n]? with
  |some (.lst l)=>(match W3 l with|some L=>if NC P n u v A then .ok (.bl true) ((A++[O.lst [.clo 0 [] PJ,.clo 0 [] PJ]]).set n (.lst L)) else .bad|none=>.bad)
  |_=>.bad)
 |_=>.bad
set_option tactic.hygienic true in
def hand (P:Obj->Addr->Obj->List V->Prop)(w:W)(U S:List W)(A:Hx):SU (Vs Pu) (NT Pu) P w U S A:=by
 by_cases h:NT Pu w U S A=.bad
 ·exact .inl h
 right
 unfold NT at h
 split at h
 ·rename_i n
  split at h
  ·rename_i l d
   split at h
   ·rename_i u p
    split at h
    ·rename_i j
     have g:=j;obtain⟨N,s,h2,a,b,c,rfl,rfl⟩:=j;have ln:=jS d;have e:(A++[O.lst (Zr P a b c)])[n]? =some (.lst l):=jx d;have Z:qQ n (A++[O.lst (Zr P a b c)]):=s.ext Ext.one;obtain⟨w,M,J,h1,Q,K,g1,g2⟩:=M5 Z e;obtain⟨t,o,E,Y,ht,S,v⟩:=Lh Q.st;obtain⟨L,f1,f2,B⟩:=U3 (f:=Gn) (us:=[]) g2 E;have I:L=u:=by
      have:W3 l=some L:=by unfold W3;rw[g1];exact f1
      rw[p]at this;cases this
      rfl
     subst I;obtain⟨D,C,x⟩:=oG (r:=A.length) (PK:=P) (a:=a) (b:=b) (c:=c) J h1 Q E Y ht v (jx h2) N qN (by lia)
     refine⟨D,n,l,L,C,?_,d,B,?_,λi y X=>?_⟩
     ·unfold NT
      dsimp only;rw[d];dsimp only;rw[p];dsimp only;rw[ai g]
     ·refine x.at ?_
      rw[f2];exact ar Q.st.lt
     ·have q:i<(A++[O.lst (Zr P a b c)]).length:=by simpa using y
      obtain⟨T,H⟩:∃T,(A++[O.lst (Zr P a b c)])[i]? =some T:=⟨_,ae q⟩;refine Eq.trans ?_ H.symm;refine x.at ?_;rw[av (Ne.symm X)];exact Q.kp.get H X
    ·exact absurd rfl h
   ·exact absurd rfl h
  ·exact absurd rfl h
 ·exact absurd rfl h
def oH (s:qQ n A)(N:2<n)(g:A[2]? =some (.tab yZ Pu))(a b c:W):∃l,NT Pu (.ref n) [a] [b,c] A=.ok (.bl true) ((A++[O.lst [.clo 0 [] PJ,.clo 0 [] PJ]]).set n (.lst l)):=by
 obtain⟨x,y,h,_⟩:=id s;obtain⟨w,B,d,r,K,L,j,i⟩:=M5 s h;obtain⟨t,o,E,S,q,v,H⟩:=Lh K.st;obtain⟨l,p,_,_⟩:=U3 (f:=Gn) (us:=[]) i E;have e:W3 [.int x,.bl y]=some l:=by unfold W3;rw[j];exact p
 refine⟨l,?_⟩;unfold NT;dsimp only;rw[h];dsimp only;rw[e];dsimp only;rw[ai ⟨N,s,g,a,b,c,rfl,rfl⟩]
end
section
variable {K κ:Nat}{C:Hx}{T a b w:W}{v x:bP}{Pu:Addr}{x2 x3 x4 x5 x6 x7 x8 x9 x10 x11:Option W}
abbrev WB:Ex:=zG (jk (ym (zO ZV (zj (zO Yu (zj qb (zj wC zw))) (zj (zO Ym (zj qb (zj wC zw))) zw)))) kF zS) (zG (qA 8 qB) (zG (jM (jU (mQ qu (qa ql))) (zQ 5) DB) (zG (jk (ym (zO ZV (zj (zO Yx (zj qb (zj wC (zj ql zw)))) (zj Jk zw)))) kF zS) zS)))
def oI (h:Tb t K)(H:v∈Rw t K)(a:x.length=K):∃y5 y8,WB (fv κ n (zp t) (some (zo x)) x5 x6 (some (zo v)) x8 x9 x10 x11) A=.ok (.nx (fv κ n (zp t) (some (zo x)) y5 x6 (some (zo v)) y8 x9 x10 x11)) A:=by have g:=h.w H;obtain⟨y5,e⟩:=oA (κ:=κ) (n:=n) (T:=zp t) (A:=A) (x5:=x5) (x6:=x6) (x9:=x9) (x10:=x10) (x11:=x11) g.l a h.d.k8 (g.sm h.d.zs);refine⟨y5,iV (wv K v x),?_⟩;refine(zA ((jT (yM (k:=true) ((zM (zr ((zM (zr (zi rfl) (zr (zi rfl) zF))).trans (n6 h H A)) (zr ((zM (zr (zi rfl) (zr (zi rfl) zF))).trans (NX h.d g A).2) zF))).trans (Mj _ _)))).trans qx)).trans ?_;refine(zA ((qj zN).trans rfl)).trans ((zA e).trans ?_);exact(zA ((jT (yM (k:=true) ((zM (zr ((zM (zr (zi rfl) (zr (zi rfl) (zr (zi rfl) zF)))).trans (oj h H a A)) (zr (zi rfl) zF))).trans (Mj _ _)))).trans qx)).trans qx
def oJ (h:Tb t K)(f:x.length=K):∃v∈Rw t K,∃y5 y8,jM (q9 (zO Qo (zj qb zw))) (zQ 7) WB (fv κ n (zp t) (some (zo x)) x5 x6 x7 x8 x9 x10 x11) A=.ok (.nx (fv κ n (zp t) (some (zo x)) y5 x6 (some (zo v)) y8 x9 x10 x11)) (A++[.lst ((Rw t K).map zo)]):=by
 have L:=List.length_pos_of_mem h.z;have g:(A++[O.lst ((Rw t K).map zo)])[A.length]? =some (.lst ((Rw t K).map zo)):=qN;have o:zO Qo (zj qb zw) (fv κ n (zp t) (some (zo x)) x5 x6 x7 x8 x9 x10 x11) A=.ok (.ref A.length) (A++[.lst ((Rw t K).map zo)]):=(zM (zr (zi rfl) zF)).trans (h.al A);have E:=jC (tw:=zQ 7) (m1:=WB) (Jz o g);generalize A++[O.lst ((Rw t K).map zo)]=D at g E;obtain⟨c,B,e,H,y5,y,y8,rfl,d⟩:=yK (j:=⟨λB i=>(zW (.ref A.length) B).map λr=>r[i]?,((Rw t K).map zo).length⟩) (st:=turn (zQ 7) WB) (N:=(Rw t K).length) (I:=λk q B=>D=B/\∃y5 y y8,q=fv κ n (zp t) (some (zo x)) y5 x6 y y8 x9 x10 x11/\(0<k->∃v∈Rw t K,y=some (zo v)))
  (λk q B b ⟨H,y5,y,y8,a,_⟩=>by subst H a;obtain⟨p,Z,e⟩:=oI (κ:=κ) (n:=n) (A:=D) (x5:=y5) (x6:=x6) (x8:=y8) (x9:=x9) (x10:=x10) (x11:=x11) h (aJ b) f;exact⟨_,_,D,(wZ g).trans (by rw[ax,ae b];rfl),(jY rfl).trans e,rfl,_,_,_,rfl,λ_=>⟨_,aJ b,rfl⟩⟩)
  (λq B ⟨H,_⟩=>by subst H;exact(wZ g).trans (by rw[aD (by rw[ag];exact aq _)])) (Rw t K).length 0 (fv κ n (zp t) (some (zo x)) x5 x6 x7 x8 x9 x10 x11) D (by lia) ⟨rfl,_,_,_,rfl,λz=>absurd z (by lia)⟩
 subst H;obtain⟨v,l,rfl⟩:=d (by lia)
 refine⟨v,l,y5,y8,E.trans ?_⟩;rw[ag]at e ⊢;exact e
abbrev T2:Lm:=We wV wF
abbrev T3:Lm:=K8 wV wF
abbrev T4:Lm:=K4 wV wF
def T6 {m:Lm}{y:Str}{g:Nat}(a:A[1]? =some (.tab yt Pt))(c:gR m.idx ρ=some ws)(H:m.m (ws.map some) A=.exc y B)(h:wm y=some g)(x:Ext A B):∃C,jk (zm ju (kL 1 yt Pt m.idx (RG m 0)) (qO (zj (zT (.int g)) zw))) kF zS ρ A=.ok (.nx ρ) C/\Ext A C:=
 ⟨_,(jT ((zE (NN a c H h) (jB (zr zN zF))).trans (Lv (d:=.list [.int g]) (YT (k:=7) (jx (Ra B g))) (YT (k:=7) qN) (by show PyData.eqv (.list [.int g]) (.list [.int g])=true;rw[PyData.eqv,PyData.eqvAll,PyData.eqvAll,PyData.eqv];simp)))).trans qx,(x.trans ⟨_,rfl⟩).app⟩
abbrev XB (P:Addr):Ex:=zG (jk (zm ju (kL 1 yt P T2.idx (RG T2 0)) (qO (zj (zT (.int 15)) zw))) kF zS) (zG (jk (zm ju (kL 1 yt P T3.idx (RG T3 0)) (qO (zj (zT (.int 15)) zw))) kF zS) zS)
def oK (h:Tb t K)(c:A[1]? =some (.tab yt Pt))(H:wA A a)(f:wz (SL t K) K a=false):∃C,XB Pt (fv κ n (zp t) x4 x5 x6 x7 x8 (some a) (some b) x11) A=.ok (.nx (fv κ n (zp t) x4 x5 x6 x7 x8 (some a) (some b) x11)) C/\Ext A C:=by obtain⟨B,e,x⟩:=n9 h H f;obtain⟨C,j,y⟩:=T6 (m:=T2) (ρ:=fv κ n (zp t) x4 x5 x6 x7 x8 (some a) (some b) x11) c (ws:=[zp t,a]) rfl ((zM (ρ:=[some (zp t),some a]) (zr (zi (i:=0) rfl) (zr (zi (i:=1) rfl) zF))).trans e) Pc x;obtain⟨D,g,Y⟩:=om (b:=b) h (H.ky y.ky) f;obtain⟨E,d,l⟩:=T6 (m:=T3) (ρ:=fv κ n (zp t) x4 x5 x6 x7 x8 (some a) (some b) x11) (y.at c) (ws:=[zp t,a,b]) rfl ((zM (ρ:=[some (zp t),some a,some b]) (zr (zi (i:=0) rfl) (zr (zi (i:=1) rfl) (zr (zi (i:=2) rfl) zF)))).trans g) Pc Y;exact⟨E,(zA j).trans ((zA d).trans qx),y.trans l⟩
abbrev YB (P:Addr):Ex:=jk (zm ju (kL 1 yt P T4.idx (RG T4 0)) (qO (zj W4 zw))) kF zS
def oM (h:Tb t K)(c:A[1]? =some (.tab yt Pt))(H:wA A a)(j:v∈Rw t K)(l:Qk (QS K) A b):∃C,Ext A C/\∀m,zG (jk (ym (zO Zc (zj qb (zj Ku zw)))) (XB Pt) zS) (zG (YB Pt) m) (fv κ n (zp t) x4 x5 x6 (some (zo v)) x8 (some a) (some b) x11) A=m (fv κ n (zp t) x4 x5 x6 (some (zo v)) x8 (some a) (some b) x11) C:=by
 obtain⟨B,e,x⟩:=LM h.d.wf h.d.tab h.d.kd h.sh H;have e:=yM ((zM (ρ:=fv κ n (zp t) x4 x5 x6 (some (zo v)) x8 (some a) (some b) x11) (zr (zi (i:=3) rfl) (zr (zi (i:=9) rfl) zF))).trans e)
 have:∃C,Ext A C/\jk (ym (zO Zc (zj qb (zj Ku zw)))) (XB Pt) zS (fv κ n (zp t) x4 x5 x6 (some (zo v)) x8 (some a) (some b) x11) A=.ok (.nx (fv κ n (zp t) x4 x5 x6 (some (zo v)) x8 (some a) (some b) x11)) C:=by
  cases f:wz (SL t K) K a with
  |true=>
   rw[f]at e;exact⟨B,x,(jT e).trans qx⟩
  |false=>
   rw[f]at e;obtain⟨C,q,g⟩:=oK (κ:=κ) (n:=n) (x4:=x4) (x5:=x5) (x6:=x6) (x7:=some (zo v)) (x8:=x8) (b:=b) (x11:=x11) h (x.at c) (H.ky x.ky) f;exact⟨C,x.trans g,(yC e).trans q⟩
 obtain⟨C,y,r⟩:=this;obtain⟨D,p,Y⟩:=ot h j (l.mono y.ky);obtain⟨E,o,u⟩:=T6 (m:=T4) (ρ:=fv κ n (zp t) x4 x5 x6 (some (zo v)) x8 (some a) (some b) x11) (y.at c) (ws:=[zp t,zo v,b]) rfl ((zM (ρ:=[some (zp t),some (zo v),some b]) (zr (zi (i:=0) rfl) (zr (zi (i:=1) rfl) (zr (zi (i:=2) rfl) zF)))).trans p) EL Y;exact⟨E,y.trans u,λm=>(zA r).trans (zA o)⟩
def AQ (h:A[1]? =some (.tab yt Pt))(e:NT Pu (.ref n) [a] [a,b] A=.ok (.bl true) B):YX 1 yt Pt 11 2 L0.idx L1.idx (NT Pu) (fv κ n T x4 x5 x6 x7 x8 (some a) (some b) x11) A=.ok (.nx (fv κ n T x4 x5 x6 x7 x8 (some a) (some b) (rO A.length))) B:=by
 unfold YX;rw[h];dsimp only;rw[ai ⟨rfl,rfl,by show 11<12;decide⟩]
 show(NT Pu (.ref n) [a] [a,b] A).bind _=_;rw[e]
 rfl
structure jd (ns:bP)(Pt Pu:Addr)(A:Hx):Prop where
 h0:A[0]? =some (.ro (ns.map W.int))
 h1:A[1]? =some (.tab yt Pt)
 h2:A[2]? =some (.tab yZ Pu)
def jd.kp {P:Addr}(h:jd ns Pt P A)(k:Kp n A B)(H:2<n):jd ns Pt P B:=
 ⟨(k.at_ 0 (jS h.h0) (by lia)).trans h.h0,(k.at_ 1 (jS h.h1) (by lia)).trans h.h1,(k.at_ 2 (jS h.h2) (by lia)).trans h.h2⟩
abbrev BL (P p:Addr):Ex:=zG (qA 2 (zO Yn (zj zI (zj zD zw)))) (zG (qA 3 (zO Jp (zj qg zw))) (zG (qA 4 (qP zw)) (zG (jM (jU (zO QV (zj qb zw))) (zQ 5) MB) (zG (jM (q9 (zO Qo (zj qb zw))) (zQ 7) WB) (zG (Ke (qP (zj (zO Yg (zj qg (zj wC zw))) (zj (zO Yi (zj qg (zj ql zw))) zw))) (jZ 9 10)) (zG (jk (ym (zO Zc (zj qb (zj Ku zw)))) (XB P) zS) (zG (YB P) (zG (YX 1 yt P 11 2 L0.idx L1.idx (NT p)) zS))))))))
def Aw (h:jd ns Pt Pu A):∃P M y4 y5 y6 y7 y8 L Y y B,BL Pt Pu [rO 0,iO κ,x2,x3,x4,x5,x6,x7,x8,x9,x10,x11] A=.ok (.nx [rO 0,iO κ,P,M,y4,y5,y6,y7,y8,L,Y,y]) B/\jd ns Pt Pu B:=by
 have l2:=jS h.h2;obtain⟨o,E,s1⟩:=lA h.h0 κ;have h1:jd ns Pt Pu (A++[o]):=⟨jx h.h0,jx h.h1,jx h.h2⟩;generalize hn:A.length=n at E s1;generalize hA1:A++[o]=A1 at E s1 h1;have N:2<n:=by lia
 obtain⟨t,K,i,T,C,s2⟩:=ny s1;have k2:Kn n A1 (A1.set n i):=⟨Kp.set,s2⟩;generalize hA2:A1.set n i=A2 at C s2 k2;have k8:=T.d.k8;have k1:=T.d.k1;obtain⟨x,y5,y6,J,H,e3,k3⟩:=oz (κ:=κ) (x5:=x5) (x6:=x6) (x7:=x7) (x8:=x8) (x9:=x9) (x10:=x10) (x11:=x11) T s2;obtain⟨v,q,Z,y8,u⟩:=oJ (κ:=κ) (n:=n) (A:=J) (x5:=y5) (x6:=y6) (x7:=x7) (x8:=x8) (x9:=x9) (x10:=x10) (x11:=x11) T H;have f:=(k2.trans k3).trans (Kn.ext k3.st (Ext.one (o:=.lst ((Rw t K).map zo))));generalize J++[O.lst ((Rw t K).map zo)]=A4 at u f;have g:=T.w q;have hl:=g.l;obtain⟨a,A5,e5,X,k5⟩:=nW (v:=v) f.st (by lia) (by lia) (g.sm T.d.zs)
 obtain⟨b,I,e6,r,p⟩:=Bs (x:=x) k5.st (by lia) (by lia)
 rw[H]at r;have c:=(f.trans k5).trans p;have S:=h1.kp c.kp N;obtain⟨D,y7,e7⟩:=oM (κ:=κ) (n:=n) (x4:=some (zo x)) (x5:=Z) (x6:=y6) (x8:=y8) (x11:=x11) T S.h1 (X I (p.ky k5.st)) q r;have j:=c.trans (Kn.ext c.st y7);have e:=h1.kp j.kp N;obtain⟨U,e8⟩:=oH j.st N e.h2 a a b;have e9:=AQ (κ:=κ) (T:=zp t) (x4:=some (zo x)) (x5:=Z) (x6:=y6) (x7:=some (zo v)) (x8:=y8) (x11:=x11) e.h1 e8;have Q:jd ns Pt Pu ((D++[O.lst [.clo 0 [] PJ,.clo 0 [] PJ]]).set n (.lst U)):=e.kp ((Kp.ext Ext.one).trans Kp.set) N;refine⟨rO n,some (zp t),some (zo x),Z,y6,some (zo v),y8,some a,some b,rO D.length,_,?_,Q⟩;refine(zA ((qj ((zM (zr (zi rfl) (zr (zi rfl) zF))).trans E)).trans rfl)).trans ?_;refine(zA ((qj ((zM (zr (zi rfl) zF)).trans C)).trans rfl)).trans ?_;refine(zA ((qj (kZ zF)).trans rfl)).trans ((zA e3).trans ((zA u).trans ?_));refine(zA (ρ1:=fv κ n (zp t) (some (zo x)) Z y6 (some (zo v)) y8 (some a) (some b) x11) (A1:=I) (Xq (kZ (zr ((zM (zr (zi rfl) (zr (zi rfl) zF))).trans e5) (zr ((zM (zr (zi rfl) (zr (zi rfl) zF))).trans e6) zF))) rfl)).trans ?_;exact(e7 _).trans ((zA e9).trans qx)
end
def SK (p P:Addr):Fn:=qo 12 (S8 Qo Zc Yi Yg QV Ym ZV Yn Jp j4 Yu Yx wV wF (NT P) RG p)
def BK:Mm yt yZ SK:=λS Q p P=>by
 have g:zW (.ref 0) [.ro (S.map W.int),.tab yt p,.tab yZ P]=some (S.map W.int):=rfl;generalize r:[O.ro (S.map W.int),.tab yt p,.tab yZ P]=A at g;have h0:jd S p P A:=by rw[<- r];exact⟨rfl,rfl,rfl⟩
 have E:mQ qu (qa zI) [rO 0,none,none,none,none,none,none,none,none,none,none,none] A=.ok (.int S.length) A:=by rw[j0 (yL (w:=.ref 0) (A1:=A) (zi rfl) g)];unfold qu;rw[ag]
 have em:zm SN jj (zm Rf (mQ qu (qa zI)) Ic) [rO 0,none,none,none,none,none,none,none,none,none,none,none] A=
   .ok (.int (if (if (5:Int)<S.length then 5 else(S.length:Int)) > 1 then(if (5:Int)<S.length then 5 else(S.length:Int)) else 1)) A:=
  (zE (zN (w:=.int 1)) ((zE E (zN (w:=.int 5))).trans rfl)).trans rfl
 generalize o:(if (if (5:Int)<S.length then 5 else(S.length:Int)) > 1 then(if (5:Int)<S.length then 5 else(S.length:Int)) else 1)=v at em;have H:jG v=true:=by
  have:0<=v/\v<1000:=by
   rw[<- o]
   split<;>split<;>lia
  obtain⟨k,rfl⟩:=aS this.1;exact QY (by lia)
 obtain⟨l,B,e,_,_⟩:=yK (j:=jE 0 v.toNat) (st:=turn (zQ 1) (BL p P)) (N:=v.toNat) (I:=λ_ ρ B=>jd S p P B/\∃f c b y4 y5 X U T a Y y,ρ=[rO 0,f,c,b,y4,y5,X,U,T,a,Y,y])
  (λi ρ B q ⟨h0,f,c,b,y4,y5,X,U,T,a,Y,y,h⟩=>by subst h;obtain⟨M,L,K,J,D,C,x,u,n,Z,t,e,d⟩:=Aw (κ:=i) (x2:=c) (x3:=b) (x4:=y4) (x5:=y5) (x6:=X) (x7:=U) (x8:=T) (x9:=a) (x10:=Y) (x11:=y) h0;refine⟨_,_,t,yh q,(jY (ρ1:=[rO 0,iO i,c,b,y4,y5,X,U,T,a,Y,y]) ?_).trans e,d,_,_,_,_,_,_,_,_,_,_,_,rfl⟩;rw[Int.zero_add];rfl)
  (λρ B _=>yf (by lia)) v.toNat 0 [rO 0,none,none,none,none,none,none,none,none,none,none,none] A (by lia) ⟨h0,_,_,_,_,_,_,_,_,_,_,_,rfl⟩
 refine⟨B,qM ?_⟩;unfold S8;exact(zA ((jC (yS em H)).trans e)).trans (qh (qH zN))
section
variable {w:World}{K:Frag}
def R4 (Z:Zz K h mg){j:Nat}{PG:Zl}{l:Nat->Fn}(H:∀k,Jc P w K mg base j (PG k) (l k)):qK P w K mg base (j+1) "_law_refused" 1 ((qo 4 (KI PG l))):=by obtain⟨f,d,F,a⟩:=Z.T.Ho;exact(Hv (k:=j) Z.B Z.C Z.T.zdd F (mg_of Z.X Z.G a) (aq _) H)
def oN (Z:Zz K h mg){p:Addr}(H:tabIn K "_law_no_table_right"=some (c,p))(e:BMain mg base)(C:CodeHd base c p)(g:Obj->Addr->Obj->List V->Prop)(d:∀b,gk base b->gM P w K mg b 8 g gp):qK P w K mg base 11 "_law_no_table_right" 2 (Vs p g):=by obtain⟨f,i,F,a⟩:=Z.T.Iz;exact Iy (k:=10) (j:=8) (kk:=10) Z.B F a H (mg_of Z.X Z.G a) e C (IZ Z).up (Fj Z).up (by decide) (λbase=>(Ur Z).up) (λbase=>(UB Z).up) d (λt base PG L=>(R4 Z L).imp λu A _=>MO u A)
def oO (Z:Zz K h mg){d p:Addr}(F:kS K "law" "law" QF f fd)(n:nsIn K mainGlobals "law"=some (some (.ref f)))(i:tabIn K "law"=some (c,Pt))(u:tabIn K "_law_no_table_right"=some (d,p))(H:BMain mg base)(C:CodeHd base c Pt)(D:CodeHd base d p):yi P w K mg base kE 12 f fd ["_law_script"] (Zw K 1 (SK Pt p)):=
 o_law (k:=11) (j:=7) (kk:=9) Z.B F n i H C (IT Z).up (RY Z).up (Hr Z).up (IE Z).up (Jq Z).up (FV Z).up (El Z).up (FJ Z).up (Fe Z).up (ka Z).up (Ey Z).up (EX Z).up (by decide) (λbase=>(Ur Z).up) (λbase=>(UB Z).up) (kn:=11) (fN:=Vs p) (NT:=NT p) (by decide) (λe S q g=>oN Z u (let ⟨l,o,a,b,c,d,r⟩:=H;⟨l,o,a,b,c,S _ _ d,r⟩) (D.keeps S) q g) hand (λt base PG L=>(R4 Z L).imp λU A _=>MO U A)
def all_mk {l:PySem.W.OpenLaw}{fa P:Addr}(X:K.In h)(Gl:h.Ns mainGlobals mg)(b:mg "law"=some (.ref fa))(T:Tx K)(t:∃c,tabIn K "law"=some (c,Pt)/\codeHdIn K c Pt=true)(H:∃c,tabIn K "_law_no_table_right"=some (c,P)/\codeHdIn K c P=true):
  ∃p:FuncData,(∀(s:Shared)(v:Value),BindsTo s p ⟨[v],[]⟩ [("_law_script",v)])/\∀base:Heap,K.In base->base.Ns mainGlobals mg->BMain mg base->yi l.prog w K mg base kE 12 fa p ["_law_script"] (Zw K 1 (SK Pt P)):=by
 obtain⟨c,t,g⟩:=t;obtain⟨d,H,u⟩:=H;obtain⟨f,p,F,a⟩:=T.zdH;have e:=b.symm.trans (mg_of X Gl a);cases e;obtain⟨n,j,kV,D,q,A,C,ct,o,rfl,L,i⟩:=id F.ex;exact⟨_,λs v=>.of_eq rfl,λbase kb nb B=>oO (zz X Gl T) F a t H B (codeHd_of_K kb g) (codeHd_of_K kb u)⟩
end
end G
namespace PySem.W.Fast
def tw13359121961194488321:Nat:=0
def tw4547702524989664327:Nat:=0
def tw8867749298563974330:Nat:=0
def tw9026861283821448585:Nat:=0
def tw6168982082329892095:Nat:=0
def tw14068645709633039819:Nat:=0
def tw5359887032231191473:Nat:=0
def tw14952479530238605753:Nat:=0
def tw13915127581392696949:Nat:=0
def tw7606968486151052719:Nat:=0
def tw5240595750128186104:Nat:=0
def tw2203819905713766235:Nat:=0
def tw4734533277838929180:Nat:=0
def tw7214045835571734187:Nat:=0
def tw13746849840907777994:Nat:=0
def tw15351716251373201908:Nat:=0
def tw5891543432822879427:Nat:=0
def tw9756077110657069467:Nat:=0
def tw6376784357087777051:Nat:=0
def tw913176442120603315:Nat:=0
def tw10639629968163638864:Nat:=0
def tw9257615902439053245:Nat:=0
def tw6565520785698122701:Nat:=0
def tw14838641392703622782:Nat:=0
def tw16734816328577549056:Nat:=0
def tw1996291862160275841:Nat:=0
def tw13688884170907912025:Nat:=0
def tw3871024744319937313:Nat:=0
def tw13893905598756504456:Nat:=0
def tw13876074370469896774:Nat:=0
def tw767825058206348607:Nat:=0
def tw10354016901386651492:Nat:=0
def tw4667827792323944878:Nat:=0
def tw6399160836545490982:Nat:=0
def tw3676076035038077607:Nat:=0
def tw4713762269027625381:Nat:=0
def tw11763842223046957453:Nat:=0
def tw2673578316477319398:Nat:=0
def tw7912932110830521041:Nat:=0
def tw15791354793361246913:Nat:=0
def tw9828202630051374773:Nat:=0
def tw4189738265290629357:Nat:=0
def tw2876318874935862921:Nat:=0
def tw14849802998784309657:Nat:=0
def tw15597124705984112568:Nat:=0
def tw16243564831618105575:Nat:=0
def tw5536213592371768602:Nat:=0
def tw2144596702777904037:Nat:=0
def tw6471780953360552048:Nat:=0
def tw6000430940812408218:Nat:=0
def tw7817190978927040369:Nat:=0
def tw2792209817395125344:Nat:=0
end PySem.W.Fast
open PySem PySem.W PyProof.Rows
set_option maxRecDepth 100000 in
set_option maxHeartbeats 0 in
theorem PySem.Challenge.cw_nearkinds_k31_how_often_and_worths_holds : PySem.Challenge.rw_nearkinds_k31_how_often_and_worths.Holds := by
 w_on;o_law;k_head;(case hw=>w_witness2)
 k_fill
 refine' Mi.zd6 (y := "_law_no_table_right") (l:=PySem.Challenge.rw_nearkinds_k31_how_often_and_worths) (k:=12) (x := "_law_script") G.BK rfl rfl ⟨rfl,by decide,by decide,rfl⟩ ?ne (λw h Y=>PySem.W.km_in_of Y) (λw h Y=>⟨km_tabs_of Y _ ?m1,km_tabs_of Y _ ?m2⟩) ?ht ?hKP ?hu ?hKU ?F
 case m1=>exact az _ (aF ..)
 case m2=>exact aF ..
 case ne=>decide
 case ht=>exact λp=>by kernel_rfl
 case hKP=>exact λp=>by kernel_rfl
 case hu=>exact λp=>by kernel_rfl
 case hKU=>exact λp=>by kernel_rfl
 case F=>
  intro w mg fa h KX Gl hmg ht hu;have T:G.Tx (L2.Ii KX):=by
   dsimp only [L2.Ii]
   apply G.Tx.mk<;>first | (refine' Mi.zep ?a ?l ?c ?k;(case a=>k_is);(case l=>k_is);(case c=>k_is);(case k=>k_is)) | (refine' Mi.zei ?a;(case a=>k_is)) | k_is|kernel_rfl
  exact G.all_mk KX Gl hmg T ht hu
